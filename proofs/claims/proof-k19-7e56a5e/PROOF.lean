import PyProof.Rows.All
import Wide.All
import OpenK.AllK
import Wide.FinOn
import HandS.ForMost
import HandS.Exc
import HandS.ExcOwn
import HandS.ExcInit
import HandS.TryOnly
import HandS.WordsExc
import HandS.ExcValue
import HandS.Wide
import HandS.WideMore
import HandS.Deep
import HandS.TupAny
import HandS.TupMul
import HandS.IsInst
import HandS.Style
import HandS.RaiseMore
import HandS.DictComp
import HandS.Dict
import PyProof.StrBlock2
import HandS.Defaults
import HandS.HeadHook1
import HandS.HeadHook2
import HandS.Head0
import HandS.Head1
import HandS.Head2
import HandS.HeadEnd
import KE.KStateDown
import PyProof.P3Eq
import HandS.Codes
import HandS.Iter
import PyProof.P3In
import PyProof.InstEq
import KE.KFmtOwn
import HandS.Strs
import KE.GoesMore
import HandS.ExcField
import HandS.ExcIs
import KE.KExcIs
import KE.SortData
import HandS.More
import HandS.SetFor
import PyProof.NeKinds
import PyProof.EqAt
import HandS.ExcCtx
import HandS.HotCalls
import HandS.ExcInitHot
import HandS.Small
import HandS.Comp
import HandS.MapObj
import KE.GoesEnum
import HandS.Conv
import HandS.Zip
import KE.KDictCopyH
import HandS.DictTup
import HandS.DictSubView
import HandS.TupSets
import KE.KDictPairs
import PySem.Challenge.RW_firingrules_k19_hits
set_option Elab.async false
set_option linter.all false
set_option maxRecDepth 100000
set_option maxHeartbeats 4000000
namespace DL
open PySem PySem.Spec PyProof.Rows L2

/-- a value as plain data; what may change stands at an address -/
inductive D where
  | non | bl (b : Bool) | int (i : Int) | str (x : Str) | ty (n : String) | ref (a : Addr)
  | tup (xs : List D) | tupp (xs : List D) | lst (xs : List D) | frl (xs : List D) | dic (ks : List Key) (vs : List D) | obj (c : Nat) (vs : List D)
  | exc (a d : Addr) (c : Nat) (vs : List D)
/-- what may change -/
inductive DO where
  | lst (xs : List D) | dic (ks : List Key) (vs : List D) | ins (c : Nat) (vs : List D) | exo (c : Nat) | dct (ks : List (List Key)) (vs : List D)
abbrev GH := Addr → Option DO
def gset (G : GH) (a : Addr) (o : DO) : GH := fun b => if b = a then some o else G b
def gdel (G : GH) (a : Addr) : GH := fun b => if b = a then none else G b
theorem gset_same {G : GH} {a : Addr} {o : DO} : gset G a o a = some o := if_pos rfl
theorem gset_ne {G : GH} {a b : Addr} {o : DO} (h : b ≠ a) : gset G a o b = G b := if_neg h
theorem gset_gset {G : GH} {a : Addr} {o u : DO} : gset (gset G a o) a u = gset G a u := by
  funext b; unfold gset; split <;> rfl
theorem gdel_same {G : GH} {a : Addr} : gdel G a a = none := if_pos rfl
theorem gdel_ne {G : GH} {a b : Addr} (h : b ≠ a) : gdel G a b = G b := if_neg h
theorem gdel_gset {G : GH} {a : Addr} {o : DO} (h : G a = none) : gdel (gset G a o) a = G := by
  funext b; unfold gdel gset; split
  · rename_i e; rw [e, h]
  · rfl
/-- what is fixed: the written part, the classes, their fields -/
structure Tb where
  K : PySem.W.Frag
  cls : Nat → Addr
  flds : Nat → List Str

def KLst (K : PySem.W.Frag) (a : Addr) (xs : List V) : Prop := ∃ (o : Obj) (its : Array Value) (n : Nat), K.lookup a = some o ∧ o.cls = .type "list" ∧ o.dict = none ∧ o.data = .seq its n ∧ its.size ≤ sizeLine ∧ Vals xs its.toList
def KTup (K : PySem.W.Frag) (a : Addr) (xs : List V) : Prop := ∃ (o : Obj) (its : Array Value) (n : Nat), K.lookup a = some o ∧ o.cls = .type "tuple" ∧ o.data = .seq its n ∧ its.size ≤ sizeLine ∧ Vals xs its.toList
def FzL (K : PySem.W.Frag) (G : GH) (H : Hp) (a : Addr) (xs : List V) : Prop := (G a = none ∧ ∃ o, H a = some (.frz o (.lst xs))) ∨ KLst K a xs
/-- no integer at the head -/
def NI (xs : List V) : Prop := ∀ i r, xs ≠ V.int i :: r
/-- a tuple; one without an integer at its head may be known by its very object, which has no dict -/
def FzT (K : PySem.W.Frag) (G : GH) (H : Hp) (a : Addr) (xs : List V) : Prop := G a = none ∧ (H a = some (.tup xs) ∨ (NI xs ∧ ∃ o, H a = some (.frz o (.tup xs)) ∧ o.dict = none))
theorem FzL.sq {K : PySem.W.Frag} {G : GH} {H : Hp} {a : Addr} {xs : List V} (h : FzL K G H a xs) : SqL K H a xs := h.elim (fun z => .inl (.inr z.2)) fun z => .inr z
theorem FzT.sq {K : PySem.W.Frag} {G : GH} {H : Hp} {a : Addr} {xs : List V} (h : FzT K G H a xs) : SqT K H a xs := h.2.elim (fun h => .inl (.inl h)) fun ⟨_, o, h, _⟩ => .inl (.inr ⟨o, h⟩)

mutual
inductive RV (T : Tb) (G : GH) (H : Hp) : D → V → Prop
  | non : RV T G H .non .non
  | bl (b : Bool) : RV T G H (.bl b) (.bl b)
  | int (i : Int) : RV T G H (.int i) (.int i)
  | str (x : Str) : RV T G H (.str x) (.str x)
  | ty (n : String) : RV T G H (.ty n) (.ty n)
  | ref (a : Addr) : RV T G H (.ref a) (.ref a)
  | tupp {a : Addr} {xs : List V} {ds : List D} {o : Obj} : G a = none → H a = some (.frz o (.tup xs)) → o.dict = none → NI xs → ds.length ≤ sizeLine → RVs T G H ds xs → RV T G H (.tupp ds) (.ref a)
  | tup {a : Addr} {xs : List V} {ds : List D} : FzT T.K G H a xs → ds.length ≤ sizeLine → RVs T G H ds xs → RV T G H (.tup ds) (.ref a)
  | lst {a : Addr} {xs : List V} {ds : List D} : G a = none → H a = some (.lst xs) → ds.length ≤ sizeLine → RVs T G H ds xs → RV T G H (.lst ds) (.ref a)
  | frl {a : Addr} {xs : List V} {ds : List D} : FzL T.K G H a xs → ds.length ≤ sizeLine → RVs T G H ds xs → RV T G H (.frl ds) (.ref a)
  | dic {a : Addr} {kvs : List (Key × V)} {ks : List Key} {xs : List V} {ds : List D} : G a = none → H a = some (.dK kvs) → kvs = ks.zip xs → ks.length = xs.length → RVs T G H ds xs → RV T G H (.dic ks ds) (.ref a)
  | obj {c : Nat} {a dx : Addr} {xs : List V} {ds : List D} : G a = none → H a = some (.ins (T.cls c) dx ((T.flds c).zip xs)) → xs.length = (T.flds c).length → RVs T G H ds xs → RV T G H (.obj c ds) (.ref a)
  | exc {c : Nat} {a dx : Addr} {xs : List V} {ds : List D} : G dx = none → H dx = some (.xd ((T.flds c).zip xs)) → xs.length = (T.flds c).length → RVs T G H ds xs → RV T G H (.exc a dx c ds) (.ref a)
inductive RVs (T : Tb) (G : GH) (H : Hp) : List D → List V → Prop
  | nil : RVs T G H [] []
  | cons {d : D} {v : V} {ds : List D} {vs : List V} : RV T G H d v → RVs T G H ds vs → RVs T G H (d :: ds) (v :: vs)
end
/-- what is not of the changing part stays -/
def Keep (G : GH) (H : Hp) (G' : GH) (H' : Hp) : Prop := ∀ a o, G a = none → H a = some o → H' a = some o ∧ G' a = none
theorem Keep.refl (G : GH) (H : Hp) : Keep G H G H := fun _ _ g h => ⟨h, g⟩
theorem Keep.trans {G G1 G2 : GH} {H H1 H2 : Hp} (a : Keep G H G1 H1) (b : Keep G1 H1 G2 H2) : Keep G H G2 H2 := fun c o g h => b c o (a c o g h).2 (a c o g h).1
theorem Keep.rd {G G' : GH} {H H' : Hp} (k : Keep G H G' H') {a : Addr} {u : HO} (g : G a = none) (r : Rd H a u) : Rd H' a u ∧ G' a = none := by
  rcases r with r | ⟨o, r⟩
  · exact ⟨.inl (k _ _ g r).1, (k _ _ g r).2⟩
  · exact ⟨.inr ⟨o, (k _ _ g r).1⟩, (k _ _ g r).2⟩
theorem Keep.fzL {K : PySem.W.Frag} {G G' : GH} {H H' : Hp} (k : Keep G H G' H') {a : Addr} {xs : List V} (h : FzL K G H a xs) : FzL K G' H' a xs := by
  rcases h with ⟨g, o, r⟩ | h
  · exact .inl ⟨(k _ _ g r).2, o, (k _ _ g r).1⟩
  · exact .inr h
theorem Keep.fzT {K : PySem.W.Frag} {G G' : GH} {H H' : Hp} (k : Keep G H G' H') {a : Addr} {xs : List V} (h : FzT K G H a xs) : FzT K G' H' a xs := by
  obtain ⟨g, h | ⟨sv, o, h, hd⟩⟩ := h
  · exact ⟨(k _ _ g h).2, .inl (k _ _ g h).1⟩
  · exact ⟨(k _ _ g h).2, .inr ⟨sv, o, (k _ _ g h).1, hd⟩⟩
mutual
theorem RV.keep {T : Tb} {G G' : GH} {H H' : Hp} (k : Keep G H G' H') : ∀ {d : D} {v : V}, RV T G H d v → RV T G' H' d v
  | _, _, .non => .non
  | _, _, .bl b => .bl b
  | _, _, .int i => .int i
  | _, _, .str x => .str x
  | _, _, .ty n => .ty n
  | _, _, .ref a => .ref a
  | _, _, .tupp g h d n l r => .tupp (k _ _ g h).2 (k _ _ g h).1 d n l (RVs.keep k r)
  | _, _, .tup h l r => .tup (k.fzT h) l (RVs.keep k r)
  | _, _, .lst g h l r => .lst (k _ _ g h).2 (k _ _ g h).1 l (RVs.keep k r)
  | _, _, .frl h l r => .frl (k.fzL h) l (RVs.keep k r)
  | _, _, .dic g h e l r => .dic (k _ _ g h).2 (k _ _ g h).1 e l (RVs.keep k r)
  | _, _, .obj g h l r => .obj (k _ _ g h).2 (k _ _ g h).1 l (RVs.keep k r)
  | _, _, .exc g h l r => .exc (k _ _ g h).2 (k _ _ g h).1 l (RVs.keep k r)
theorem RVs.keep {T : Tb} {G G' : GH} {H H' : Hp} (k : Keep G H G' H') : ∀ {ds : List D} {vs : List V}, RVs T G H ds vs → RVs T G' H' ds vs
  | _, _, .nil => .nil
  | _, _, .cons a b => .cons (RV.keep k a) (RVs.keep k b)
end
theorem RVs.length {T : Tb} {G : GH} {H : Hp} : ∀ {ds : List D} {vs : List V}, RVs T G H ds vs → ds.length = vs.length
  | _, _, .nil => rfl
  | _, _, .cons _ t => congrArg (· + 1) (RVs.length t)
theorem RVs.get {T : Tb} {G : GH} {H : Hp} : ∀ {ds : List D} {vs : List V} {i : Nat} {d : D}, RVs T G H ds vs → ds[i]? = some d → ∃ v, vs[i]? = some v ∧ RV T G H d v
  | _, _, _, _, .nil, e => by simp at e
  | _, _, 0, _, .cons a _, e => by simp at e; subst e; exact ⟨_, rfl, a⟩
  | _, _, i + 1, d, .cons _ t, e => by
    obtain ⟨v, h1, h2⟩ := RVs.get (i := i) (d := d) t (by simpa using e)
    exact ⟨v, by simpa using h1, h2⟩
theorem RVs.getV {T : Tb} {G : GH} {H : Hp} : ∀ {ds : List D} {vs : List V} {i : Nat} {v : V}, RVs T G H ds vs → vs[i]? = some v → ∃ d, ds[i]? = some d ∧ RV T G H d v
  | _, _, _, _, .nil, e => by simp at e
  | _, _, 0, _, .cons a _, e => by simp at e; subst e; exact ⟨_, rfl, a⟩
  | _, _, i + 1, d, .cons _ t, e => by
    obtain ⟨v, h1, h2⟩ := RVs.getV (i := i) (v := d) t (by simpa using e)
    exact ⟨v, by simpa using h1, h2⟩
theorem RVs.append {T : Tb} {G : GH} {H : Hp} : ∀ {ds es : List D} {vs us : List V}, RVs T G H ds vs → RVs T G H es us → RVs T G H (ds ++ es) (vs ++ us)
  | _, _, _, _, .nil, s => s
  | _, _, _, _, .cons r t, s => .cons r (RVs.append t s)
theorem RVs.take {T : Tb} {G : GH} {H : Hp} : ∀ {ds : List D} {vs : List V} (n : Nat), RVs T G H ds vs → RVs T G H (ds.take n) (vs.take n)
  | _, _, 0, _ => .nil
  | _, _, _ + 1, .nil => .nil
  | _, _, n + 1, .cons r t => .cons r (RVs.take n t)
theorem RVs.drop {T : Tb} {G : GH} {H : Hp} : ∀ {ds : List D} {vs : List V} (n : Nat), RVs T G H ds vs → RVs T G H (ds.drop n) (vs.drop n)
  | _, _, 0, r => r
  | _, _, _ + 1, .nil => .nil
  | _, _, n + 1, .cons _ t => RVs.drop n t
theorem RVs.set {T : Tb} {G : GH} {H : Hp} {d : D} {v : V} (r : RV T G H d v) : ∀ {ds : List D} {vs : List V} (i : Nat), RVs T G H ds vs → RVs T G H (ds.set i d) (vs.set i v)
  | _, _, _, .nil => .nil
  | _, _, 0, .cons _ t => .cons r t
  | _, _, i + 1, .cons q t => .cons q (RVs.set r i t)

def ROb (T : Tb) (G : GH) (H : Hp) (a : Addr) : DO → Prop
  | .lst ds => ∃ xs, H a = some (.lst xs) ∧ ds.length ≤ sizeLine ∧ RVs T G H ds xs
  | .dic ks ds => ∃ xs, H a = some (.dK (ks.zip xs)) ∧ ks.length = xs.length ∧ RVs T G H ds xs
  | .ins c ds => ∃ dx xs, H a = some (.ins (T.cls c) dx ((T.flds c).zip xs)) ∧ xs.length ≤ (T.flds c).length ∧ RVs T G H ds xs
  | .exo c => H a = some (ExO (.ref (T.cls c)) a)
  | .dct ks ds => ∃ xs, H a = some (.dT (ks.zip xs)) ∧ ks.length = xs.length ∧ RVs T G H ds xs
def RH (T : Tb) (G : GH) (H : Hp) : Prop := ∀ a o, G a = some o → ROb T G H a o
theorem ROb.there {T : Tb} {G : GH} {H : Hp} {a : Addr} : ∀ {o : DO}, ROb T G H a o → ∃ u, H a = some u ∧ Mut (some u)
  | .lst _, ⟨_, h, _⟩ => ⟨_, h, trivial⟩
  | .dic _ _, ⟨_, h, _⟩ => ⟨_, h, trivial⟩
  | .ins _ _, ⟨_, _, h, _⟩ => ⟨_, h, trivial⟩
  | .exo _, h => ⟨_, h, trivial⟩
  | .dct _ _, ⟨_, h, _⟩ => ⟨_, h, trivial⟩
theorem ROb.keep {T : Tb} {G G' : GH} {H H' : Hp} {a : Addr} (k : Keep G H G' H') (e : H' a = H a) : ∀ {o : DO}, ROb T G H a o → ROb T G' H' a o
  | .lst _, ⟨xs, h, l, r⟩ => ⟨xs, e.trans h, l, r.keep k⟩
  | .dic _ _, ⟨xs, h, l, r⟩ => ⟨xs, e.trans h, l, r.keep k⟩
  | .ins _ _, ⟨dx, xs, h, l, r⟩ => ⟨dx, xs, e.trans h, l, r.keep k⟩
  | .exo _, h => e.trans h
  | .dct _ _, ⟨xs, h, l, r⟩ => ⟨xs, e.trans h, l, r.keep k⟩
theorem RH.fresh {T : Tb} {G : GH} {H : Hp} (h : RH T G H) {p : Addr} (n : H p = none) : G p = none := by
  cases e : G p with
  | none => rfl
  | some o =>
    obtain ⟨u, q, _⟩ := (h p o e).there
    rw [n] at q; cases q
/-- a new untracked-by-G object -/
theorem Keep.new {G : GH} {H : Hp} {p : Addr} {u : HO} (n : H p = none) : Keep G H G (upd H p u) := fun a o g h => ⟨by rw [upd_ne (ne_of_none h n)]; exact h, g⟩
theorem RH.new {T : Tb} {G : GH} {H : Hp} (h : RH T G H) {p : Addr} {u : HO} (n : H p = none) : RH T G (upd H p u) := fun a o g => by
  have hp : a ≠ p := by rintro rfl; rw [h.fresh n] at g; cases g
  exact (h a o g).keep (Keep.new n) (upd_ne hp)
/-- a new changing object -/
theorem Keep.newG {G : GH} {H : Hp} {p : Addr} {u : HO} {d : DO} (n : H p = none) : Keep G H (gset G p d) (upd H p u) := fun a o g h => by
  have hp : a ≠ p := ne_of_none h n
  exact ⟨by rw [upd_ne hp]; exact h, by rw [gset_ne hp]; exact g⟩
theorem RH.newG {T : Tb} {G : GH} {H : Hp} (h : RH T G H) {p : Addr} {u : HO} {d : DO} (n : H p = none) (hd : ROb T (gset G p d) (upd H p u) p d) : RH T (gset G p d) (upd H p u) := fun a o g => by
  by_cases hp : a = p
  · subst hp; rw [gset_same] at g; cases g; exact hd
  · rw [gset_ne hp] at g
    exact (h a o g).keep (Keep.newG n) (upd_ne hp)
/-- a changing object changes -/
theorem Keep.put {G : GH} {H : Hp} {p : Addr} {u : HO} {d d0 : DO} (e : G p = some d0) : Keep G H (gset G p d) (upd H p u) := fun a o g h => by
  have hp : a ≠ p := by rintro rfl; rw [e] at g; cases g
  exact ⟨by rw [upd_ne hp]; exact h, by rw [gset_ne hp]; exact g⟩
theorem RH.put {T : Tb} {G : GH} {H : Hp} (h : RH T G H) {p : Addr} {u : HO} {d d0 : DO} (e : G p = some d0) (hd : ROb T (gset G p d) (upd H p u) p d) : RH T (gset G p d) (upd H p u) := fun a o g => by
  by_cases hp : a = p
  · subst hp; rw [gset_same] at g; cases g; exact hd
  · rw [gset_ne hp] at g
    exact (h a o g).keep (Keep.put e) (upd_ne hp)
/-- a changing object is held to be fixed from now on -/
theorem Keep.freeze {G : GH} {H : Hp} {p : Addr} : Keep G H (gdel G p) H := fun a o g h => ⟨h, by unfold gdel; split <;> first | rfl | exact g⟩
theorem RH.freeze {T : Tb} {G : GH} {H : Hp} (h : RH T G H) (p : Addr) : RH T (gdel G p) H := fun a o g => by
  have hp : a ≠ p := by rintro rfl; rw [gdel_same] at g; cases g
  rw [gdel_ne hp] at g
  exact (h a o g).keep Keep.freeze rfl

abbrev Ev := List (Option D)
def lk : Ev → Nat → Option D
  | [], _ => none
  | d :: _, 0 => d
  | _ :: r, i + 1 => lk r i
theorem lk_eq : ∀ (env : Ev) (i : Nat) (d : D), lk env i = some d → env[i]? = some (some d)
  | [], _, _, h => by cases h
  | x :: _, 0, d, h => by show some x = _; exact congrArg some h
  | _ :: r, i + 1, d, h => lk_eq r i d h
def RS (T : Tb) (G : GH) (H : Hp) (env : Ev) (σ : List (Option V)) : Prop := env.length = σ.length ∧ ∀ (i : Nat) (d : D), env[i]? = some (some d) → ∃ v, σ[i]? = some (some v) ∧ RV T G H d v
theorem RS.keep {T : Tb} {G G' : GH} {H H' : Hp} (k : Keep G H G' H') {env : Ev} {σ : List (Option V)} (h : RS T G H env σ) : RS T G' H' env σ :=
  ⟨h.1, fun i d e => let ⟨v, a, b⟩ := h.2 i d e; ⟨v, a, b.keep k⟩⟩
theorem RS.set {T : Tb} {G : GH} {H : Hp} {env : Ev} {σ : List (Option V)} {d : D} {v : V} (h : RS T G H env σ) (i : Nat) (r : RV T G H d v) : RS T G H (env.set i (some d)) (σ.set i (some v)) := by
  refine ⟨by rw [List.length_set, List.length_set]; exact h.1, fun j e hj => ?_⟩
  by_cases hij : i = j
  · subst hij
    by_cases hl : i < env.length
    · rw [List.getElem?_set_self hl] at hj; cases hj
      exact ⟨v, List.getElem?_set_self (by rw [← h.1]; exact hl), r⟩
    · have : (env.set i (some d))[i]? = none := List.getElem?_eq_none (by rw [List.length_set]; omega)
      rw [this] at hj; cases hj
  · rw [List.getElem?_set_ne hij] at hj ⊢
    exact h.2 j e hj
theorem RS.unset {T : Tb} {G : GH} {H : Hp} {env : Ev} {σ : List (Option V)} (h : RS T G H env σ) (i : Nat) : RS T G H (env.set i none) (σ.set i none) := by
  refine ⟨by rw [List.length_set, List.length_set]; exact h.1, fun j e hj => ?_⟩
  by_cases hij : i = j
  · subst hij
    by_cases hl : i < env.length
    · rw [List.getElem?_set_self hl] at hj; cases hj
    · have : (env.set i none)[i]? = none := List.getElem?_eq_none (by rw [List.length_set]; omega)
      rw [this] at hj; cases hj
  · rw [List.getElem?_set_ne hij] at hj ⊢
    exact h.2 j e hj
/-- a slot that is not told -/
theorem RS.unset' {T : Tb} {G : GH} {H : Hp} {env : Ev} {σ : List (Option V)} (h : RS T G H env σ) (i : Nat) : RS T G H (env.set i none) σ := by
  refine ⟨by rw [List.length_set]; exact h.1, fun j e hj => ?_⟩
  by_cases hij : i = j
  · subst hij
    by_cases hl : i < env.length
    · rw [List.getElem?_set_self hl] at hj; cases hj
    · have : (env.set i none)[i]? = none := List.getElem?_eq_none (by rw [List.length_set]; omega)
      rw [this] at hj; cases hj
  · rw [List.getElem?_set_ne hij] at hj
    exact h.2 j e hj
def wipeE (env : Ev) : List Nat → Ev
  | [] => env
  | v :: vs => (wipeE env vs).set v none
theorem RS.wipe {T : Tb} {G : GH} {H : Hp} {env : Ev} {σ : List (Option V)} (h : RS T G H env σ) : ∀ vs, RS T G H (wipeE env vs) (wipe σ vs)
  | [] => h
  | v :: vs => (RS.wipe h vs).unset v
end DL
set_option Elab.async false
set_option linter.all false
set_option maxRecDepth 100000
set_option maxHeartbeats 4000000
namespace DL
open PySem PySem.Spec PyProof.Rows L2

abbrev DK := D → GH → Prop
abbrev DX := Nat → List D → GH → Prop
abbrev TEd := Ev → GH → DK → DX → Prop
abbrev TTd := Ev → GH → (Bool → GH → Prop) → DX → Prop
abbrev TAd := Ev → GH → (List D → GH → Prop) → DX → Prop
structure DEnds where
  nx : Ev → GH → Prop
  rt : D → GH → Prop
  bk : Ev → GH → Prop
  ct : Ev → GH → Prop
  ex : Nat → List D → Ev → GH → Prop
abbrev TSd := DEnds → Ev → GH → Prop
/-- an exception of the class c with its fields -/
def RX (T : Tb) (G : GH) (H : Hp) (c : Nat) (ds : List D) (cl : Value) (dx : Option Addr) : Prop :=
  cl = .ref (T.cls c) ∧ ((ds = [] ∧ dx = none) ∨ ∃ d xs, dx = some d ∧ G d = none ∧ H d = some (.xd ((T.flds c).zip xs)) ∧ xs.length = (T.flds c).length ∧ RVs T G H ds xs)
def QV (T : Tb) (G : GH) (H : Hp) (Q : DK) : VK := fun v H' => ∃ d G', RV T G' H' d v ∧ RH T G' H' ∧ Keep G H G' H' ∧ Q d G'
def ExOk (T : Tb) (W : WX) (G : GH) (H : Hp) (σ : List (Option V)) (Ex : DX) : Prop :=
  ∀ c ds G' cl dx H', Ex c ds G' → RX T G' H' c ds cl dx → RH T G' H' → Keep G H G' H' → W cl dx σ H'
theorem ExOk.keep {T : Tb} {W : WX} {G G1 : GH} {H H1 : Hp} {σ : List (Option V)} {Ex : DX} (k : Keep G H G1 H1) (h : ExOk T W G H σ Ex) : ExOk T W G1 H1 σ Ex :=
  fun c ds G' cl dx H' a b d e => h c ds G' cl dx H' a b d (k.trans e)
theorem QV.keep {T : Tb} {G G1 : GH} {H H1 : Hp} {Q : DK} {v : V} {H' : Hp} (k : Keep G H G1 H1) (h : QV T G1 H1 Q v H') : QV T G H Q v H' := by
  obtain ⟨d, G', a, b, c, e⟩ := h
  exact ⟨d, G', a, b, k.trans c, e⟩
/-- a D-reading as one of the layer below -/
def liftE (T : Tb) (W : WX) (t : TEd) : TE := fun σ H Qv => ∃ env G Q Ex, RS T G H env σ ∧ RH T G H ∧ ExOk T W G H σ Ex ∧ t env G Q Ex ∧ ∀ v H', QV T G H Q v H' → Qv v H'
def liftT (T : Tb) (W : WX) (t : TTd) : TT := fun σ H Qb => ∃ env G Q Ex, RS T G H env σ ∧ RH T G H ∧ ExOk T W G H σ Ex ∧ t env G Q Ex ∧ ∀ b H' G', RH T G' H' → Keep G H G' H' → Q b G' → Qb b H'
def liftA (T : Tb) (W : WX) (t : TAd) : TA := fun σ H Qs => ∃ env G Q Ex, RS T G H env σ ∧ RH T G H ∧ ExOk T W G H σ Ex ∧ t env G Q Ex ∧ ∀ vs H' ds G', RVs T G' H' ds vs → RH T G' H' → Keep G H G' H' → Q ds G' → Qs vs H'
structure QE (T : Tb) (X : Cx) (W : WX) (e : Expr) (t : TEd) : Prop where
  pe : PE X e (liftE T W t)
structure QT (T : Tb) (X : Cx) (W : WX) (e : Expr) (t : TTd) : Prop where
  pt : PT X e (liftT T W t)
structure QW (T : Tb) (X : Cx) (W : WX) (e : Expr) (t : TTd) : Prop where
  pw : PW X e (liftT T W t)
structure QA (T : Tb) (X : Cx) (W : WX) (es : List Expr) (t : TAd) : Prop where
  pa : PA X es (liftA T W t)
section
variable {T : Tb} {X : Cx} {W : WX} {e a b : Expr} {es : List Expr} {t ta tb : TEd} {pos : Pos}
theorem PE.imp {t0 t1 : TE} (h : PE X e t0) (hi : ∀ σ H Q, t1 σ H Q → t0 σ H Q) : PE X e t1 := ⟨fun pins s σ H Q I q => h.run pins s σ H Q I (hi σ H Q q)⟩
theorem PT.imp {t0 t1 : TT} (h : PT X e t0) (hi : ∀ σ H Q, t1 σ H Q → t0 σ H Q) : PT X e t1 := ⟨fun pins s σ H Q I q => h.run pins s σ H Q I (hi σ H Q q)⟩
theorem PW.imp {t0 t1 : TT} (h : PW X e t0) (hi : ∀ σ H Q, t1 σ H Q → t0 σ H Q) : PW X e t1 := ⟨fun wh pins s σ H Q I q => h.run wh pins s σ H Q I (hi σ H Q q)⟩
theorem PA.imp {t0 t1 : TA} (h : PA X es t0) (hi : ∀ σ H Q, t1 σ H Q → t0 σ H Q) : PA X es t1 := ⟨fun pos pins s σ H Q I q => h.run pos pins s σ H Q I (hi σ H Q q)⟩
/-- into the lower reading -/
theorem intoE {t : TEd} {env : Ev} {G : GH} {H : Hp} {σ : List (Option V)} {Q : DK} {Ex : DX} {Qv : VK} (rs : RS T G H env σ) (rh : RH T G H) (ex : ExOk T W G H σ Ex) (h : t env G Q Ex)
    (k : ∀ d v G' H', RV T G' H' d v → RH T G' H' → Keep G H G' H' → Q d G' → Qv v H') : liftE T W t σ H Qv :=
  ⟨env, G, Q, Ex, rs, rh, ex, h, fun v H' ⟨d, G', a, b, c, e⟩ => k d v G' H' a b c e⟩
theorem intoT {t : TTd} {env : Ev} {G : GH} {H : Hp} {σ : List (Option V)} {Q : Bool → GH → Prop} {Ex : DX} {Qv : Bool → Hp → Prop} (rs : RS T G H env σ) (rh : RH T G H) (ex : ExOk T W G H σ Ex) (h : t env G Q Ex)
    (k : ∀ b G' H', RH T G' H' → Keep G H G' H' → Q b G' → Qv b H') : liftT T W t σ H Qv :=
  ⟨env, G, Q, Ex, rs, rh, ex, h, fun b H' G' => k b G' H'⟩
theorem intoA {t : TAd} {env : Ev} {G : GH} {H : Hp} {σ : List (Option V)} {Q : List D → GH → Prop} {Ex : DX} {Qv : List V → Hp → Prop} (rs : RS T G H env σ) (rh : RH T G H) (ex : ExOk T W G H σ Ex) (h : t env G Q Ex)
    (k : ∀ ds vs G' H', RVs T G' H' ds vs → RH T G' H' → Keep G H G' H' → Q ds G' → Qv vs H') : liftA T W t σ H Qv :=
  ⟨env, G, Q, Ex, rs, rh, ex, h, fun vs H' ds G' => k ds vs G' H'⟩
/-- a rule of the layer below, told of data -/
theorem QE.of {t0 : TE} (h : PE X e t0) (hi : ∀ env G σ H Q Ex Qv, RS T G H env σ → RH T G H → ExOk T W G H σ Ex → t env G Q Ex → (∀ d v G' H', RV T G' H' d v → RH T G' H' → Keep G H G' H' → Q d G' → Qv v H') → t0 σ H Qv) : QE T X W e t :=
  ⟨PE.imp h fun σ H Qv ⟨env, G, Q, Ex, rs, rh, ex, q, k⟩ => hi env G σ H Q Ex Qv rs rh ex q fun d v G' H' x1 x2 x3 x4 => k v H' ⟨d, G', x1, x2, x3, x4⟩⟩
theorem QT.of {t : TTd} {t0 : TT} (h : PT X e t0) (hi : ∀ env G σ H Q Ex Qv, RS T G H env σ → RH T G H → ExOk T W G H σ Ex → t env G Q Ex → (∀ b G' H', RH T G' H' → Keep G H G' H' → Q b G' → Qv b H') → t0 σ H Qv) : QT T X W e t :=
  ⟨PT.imp h fun σ H Qv ⟨env, G, Q, Ex, rs, rh, ex, q, k⟩ => hi env G σ H Q Ex Qv rs rh ex q fun b G' H' x1 x2 x3 => k b H' G' x1 x2 x3⟩
theorem QW.of {t : TTd} {t0 : TT} (h : PW X e t0) (hi : ∀ env G σ H Q Ex Qv, RS T G H env σ → RH T G H → ExOk T W G H σ Ex → t env G Q Ex → (∀ b G' H', RH T G' H' → Keep G H G' H' → Q b G' → Qv b H') → t0 σ H Qv) : QW T X W e t :=
  ⟨PW.imp h fun σ H Qv ⟨env, G, Q, Ex, rs, rh, ex, q, k⟩ => hi env G σ H Q Ex Qv rs rh ex q fun b G' H' x1 x2 x3 => k b H' G' x1 x2 x3⟩
theorem QA.of {t : TAd} {t0 : TA} (h : PA X es t0) (hi : ∀ env G σ H Q Ex Qv, RS T G H env σ → RH T G H → ExOk T W G H σ Ex → t env G Q Ex → (∀ ds vs G' H', RVs T G' H' ds vs → RH T G' H' → Keep G H G' H' → Q ds G' → Qv vs H') → t0 σ H Qv) : QA T X W es t :=
  ⟨PA.imp h fun σ H Qv ⟨env, G, Q, Ex, rs, rh, ex, q, k⟩ => hi env G σ H Q Ex Qv rs rh ex q fun ds vs G' H' x0 x1 x2 x3 => k vs H' ds G' x0 x1 x2 x3⟩

/-! ### names, constants -/
def wVar (i : Nat) : TEd := fun env G Q _ => ∃ d, lk env i = some d ∧ Q d G
def wC (d : D) : TEd := fun _ G Q _ => Q d G
theorem qv (i : Nat) {x : Str} (hN : X.N[i]? = some x := by rfl) (hv : Vis X.env.scope x := by first | exact Or.inl rfl | exact Or.inr (Or.inl rfl) | exact Or.inr (Or.inr rfl)) (hd : (x == ("__debug__" : Str)) = false := by decide)
    (hcd : (x == ("__classdict__" : Str)) = false := by decide) : QE T X W (.Name x pos) (wVar i) :=
  QE.of (pe_var hN hv hd hcd) fun env G σ H Q Ex Qv rs rh ex ⟨d, e, q⟩ k => by
    obtain ⟨v, h1, h2⟩ := rs.2 i d (lk_eq _ _ _ e)
    exact ⟨v, h1, k d v G H h2 rh (Keep.refl _ _) q⟩
theorem qc {d : D} {v : V} (h : PE X e (tC v)) (r : ∀ G H, RV T G H d v) : QE T X W e (wC d) :=
  QE.of h fun env G σ H Q Ex Qv rs rh ex q k => k d v G H (r G H) rh (Keep.refl _ _) q
theorem q_int {i j pos} : QE T X W (.Constant (.int i) j pos) (wC (.int i)) := qc pe_int fun _ _ => .int i
theorem q_bl {b j pos} : QE T X W (.Constant (.bool b) j pos) (wC (.bl b)) := qc pe_bl fun _ _ => .bl b
theorem q_non {j pos} : QE T X W (.Constant .none j pos) (wC .non) := qc pe_non fun _ _ => .non
theorem q_str {x j pos} : QE T X W (.Constant (.str x) j pos) (wC (.str x)) := qc pe_str fun _ _ => .str x
theorem q_glob {x : Str} {v : V} {u : Value} {d : D} (hg : Gl X x) (hm : X.mg x = some u) (r : RelV v u) (rd : ∀ G H, RV T G H d v) (hd : (x == ("__debug__" : Str)) = false := by decide) : QE T X W (.Name x pos) (wC d) := qc (pe_glob hg hm r hd) rd

/-! ### operators -/
abbrev O2 := D → D → GH → DK → Prop
/-- what an operator of data asks, in the words below -/
def OpI (T : Tb) (r0 : R2) (o : O2) : Prop := ∀ G H x y v u (Q : DK) (Qv : VK), RH T G H → RV T G H x v → RV T G H y u → o x y G Q → (∀ d w G' H', RV T G' H' d w → RH T G' H' → Keep G H G' H' → Q d G' → Qv w H') → r0 v u H Qv
def wOp (o : O2) (ta tb : TEd) : TEd := fun env G Q Ex => ta env G (fun x G1 => tb env G1 (fun y G2 => o x y G2 Q) Ex) Ex
theorem tOp_in {r0 : R2} {o : O2} (oi : OpI T r0 o) {env : Ev} {G : GH} {H : Hp} {σ : List (Option V)} {Q : DK} {Ex : DX} {Qv : VK} (rs : RS T G H env σ) (rh : RH T G H) (ex : ExOk T W G H σ Ex) (q : wOp o ta tb env G Q Ex)
    (k : ∀ d v G' H', RV T G' H' d v → RH T G' H' → Keep G H G' H' → Q d G' → Qv v H') : tOp r0 (liftE T W ta) (liftE T W tb) σ H Qv :=
  intoE rs rh ex q fun x v G1 H1 rx rh1 k1 q1 => intoE (rs.keep k1) rh1 (ex.keep k1) q1 fun y u G2 H2 ry rh2 k2 q2 =>
    oi G2 H2 x y v u Q Qv rh2 (rx.keep k2) ry q2 fun d w G3 H3 rd rh3 k3 q3 => k d w G3 H3 rd rh3 ((k1.trans k2).trans k3) q3
theorem q_op {op : Operator} {r0 : R2} {o : O2} (ho : OpR X (binaryOp op) r0) (oi : OpI T r0 o) (ha : QE T X W a ta) (hb : QE T X W b tb) : QE T X W (.BinOp a op b pos) (wOp o ta tb) :=
  QE.of (pe_op ho ha.pe hb.pe) fun env G σ H Q Ex Qv rs rh ex q k => tOp_in oi rs rh ex q k
theorem q_cmp {op : CmpOp} {r0 : R2} {o : O2} (ho : OpR X (compareOp op) r0) (oi : OpI T r0 o) (ha : QE T X W a ta) (hb : QE T X W b tb) (hm : behindInMarks op b = false := by first | exact nomark _ | rfl) : QE T X W (.Compare a [op] [b] pos) (wOp o ta tb) :=
  QE.of (pe_cmpR ho ha.pe hb.pe hm) fun env G σ H Q Ex Qv rs rh ex q k => tOp_in oi rs rh ex q k
/-- a pure operator by a partial function -/
def pureO (f : D → D → Option D) : O2 := fun x y G Q => ∃ r, f x y = some r ∧ Q r G
def isB : D → Option Bool
  | .bl b => some b
  | _ => none
def wTest (t : TEd) : TTd := fun env G Q Ex => t env G (fun x G1 => ∃ b, x = .bl b ∧ Q b G1) Ex
theorem qt_cmp {op : CmpOp} {r0 : R2} {o : O2} (ho : OpR X (compareOp op) r0) (oi : OpI T r0 o) (ha : QE T X W a ta) (hb : QE T X W b tb) (hm : behindInMarks op b = false := by first | exact nomark _ | rfl) : QT T X W (.Compare a [op] [b] pos) (wTest (wOp o ta tb)) :=
  QT.of (pt_cmpR ho ha.pe hb.pe hm) fun env G σ H Q Ex Qv rs rh ex q k => tOp_in (Qv := fun x H' => ∃ k, x = .bl k ∧ Qv k H') oi rs rh ex q fun d v G' H' rv rh' kk q' => by
    obtain ⟨c, e, q'⟩ := q'
    subst e
    cases rv
    exact ⟨c, rfl, k c G' H' rh' kk q'⟩
/-- any expression whose value is a bool -/
theorem qt_val (h : QE T X W e t) (he : ∀ whole, isTrue e X.env whole = (do let v ← whole; standAt e.pos; holding [v] (truthy v)) := by intro _; rfl) : QT T X W e (wTest t) :=
  QT.of (pt_val h.pe he) fun env G σ H Q Ex Qv rs rh ex q k => intoE rs rh ex q fun d v G' H' rv rh' kk ⟨c, e, q'⟩ => by
    subst e
    cases rv
    exact ⟨c, rfl, k c G' H' rh' kk q'⟩
/-! ### and, or, not -/
def wAndT (t u : TTd) : TTd := fun env G Q Ex => t env G (fun c G1 => if c = true then u env G1 Q Ex else Q false G1) Ex
def wOrT (t u : TTd) : TTd := fun env G Q Ex => t env G (fun c G1 => if c = true then Q true G1 else u env G1 Q Ex) Ex
def wNotT (t : TTd) : TTd := fun env G Q Ex => t env G (fun c G1 => Q (!c) G1) Ex
variable {tA tB' : TTd} {rest : List Expr}
theorem QW.qt (h : QW T X W e tA) : QT T X W e tA := ⟨h.pw.pt⟩
theorem qw_and1 (ha : QT T X W a tA) : QW T X W (.BoolOp .And [a] pos) tA := ⟨pw_and1 ha.pt⟩
theorem qw_or1 (ha : QT T X W a tA) : QW T X W (.BoolOp .Or [a] pos) tA := ⟨pw_or1 ha.pt⟩
theorem qw_and (ha : QT T X W a tA) (hb : QW T X W (.BoolOp .And (b :: rest) pos) tB') : QW T X W (.BoolOp .And (a :: b :: rest) pos) (wAndT tA tB') :=
  QW.of (pw_and ha.pt hb.pw) fun env G σ H Q Ex Qv rs rh ex q k => intoT rs rh ex q fun c G1 H1 rh1 k1 q1 => by
    cases c with
    | true =>
      rw [if_pos rfl] at q1 ⊢
      exact intoT (rs.keep k1) rh1 (ex.keep k1) q1 fun b G2 H2 rh2 k2 q2 => k b G2 H2 rh2 (k1.trans k2) q2
    | false =>
      rw [if_neg Bool.false_ne_true] at q1 ⊢
      exact k false G1 H1 rh1 k1 q1
theorem qw_or (ha : QT T X W a tA) (hb : QW T X W (.BoolOp .Or (b :: rest) pos) tB') : QW T X W (.BoolOp .Or (a :: b :: rest) pos) (wOrT tA tB') :=
  QW.of (pw_or ha.pt hb.pw) fun env G σ H Q Ex Qv rs rh ex q k => intoT rs rh ex q fun c G1 H1 rh1 k1 q1 => by
    cases c with
    | false =>
      rw [if_neg Bool.false_ne_true] at q1 ⊢
      exact intoT (rs.keep k1) rh1 (ex.keep k1) q1 fun b G2 H2 rh2 k2 q2 => k b G2 H2 rh2 (k1.trans k2) q2
    | true =>
      rw [if_pos rfl] at q1 ⊢
      exact k true G1 H1 rh1 k1 q1
theorem qt_not (ha : QT T X W a tA) : QT T X W (.UnaryOp .Not a pos) (wNotT tA) :=
  QT.of (pt_not ha.pt) fun env G σ H Q Ex Qv rs rh ex q k => intoT rs rh ex q fun c G1 H1 rh1 k1 q1 => k _ G1 H1 rh1 k1 q1
def wAnd (ta tb : TEd) : TEd := fun env G Q Ex => ta env G (fun x G1 => ∃ c, x = .bl c ∧ if c = true then tb env G1 Q Ex else Q (.bl false) G1) Ex
def wOr (ta tb : TEd) : TEd := fun env G Q Ex => ta env G (fun x G1 => ∃ c, x = .bl c ∧ if c = true then Q (.bl true) G1 else tb env G1 Q Ex) Ex
def wNot (ta : TEd) : TEd := fun env G Q Ex => ta env G (fun x G1 => ∃ c, x = .bl c ∧ Q (.bl (!c)) G1) Ex
theorem q_one {op} (h : QE T X W a t) : QE T X W (.BoolOp op [a] pos) t := ⟨pe_one h.pe⟩
theorem q_and (ha : QE T X W a ta) (hb : QE T X W (.BoolOp .And (b :: rest) pos) tb) : QE T X W (.BoolOp .And (a :: b :: rest) pos) (wAnd ta tb) :=
  QE.of (pe_and ha.pe hb.pe) fun env G σ H Q Ex Qv rs rh ex q k => intoE rs rh ex q fun x v G1 H1 rx rh1 k1 ⟨c, e, q1⟩ => by
    subst e
    cases rx
    refine ⟨c, rfl, ?_⟩
    cases c with
    | true =>
      rw [if_pos rfl] at q1 ⊢
      exact intoE (rs.keep k1) rh1 (ex.keep k1) q1 fun d w G2 H2 rd rh2 k2 q2 => k d w G2 H2 rd rh2 (k1.trans k2) q2
    | false =>
      rw [if_neg Bool.false_ne_true] at q1 ⊢
      exact k _ _ G1 H1 (.bl false) rh1 k1 q1
theorem q_or (ha : QE T X W a ta) (hb : QE T X W (.BoolOp .Or (b :: rest) pos) tb) : QE T X W (.BoolOp .Or (a :: b :: rest) pos) (wOr ta tb) :=
  QE.of (pe_or ha.pe hb.pe) fun env G σ H Q Ex Qv rs rh ex q k => intoE rs rh ex q fun x v G1 H1 rx rh1 k1 ⟨c, e, q1⟩ => by
    subst e
    cases rx
    refine ⟨c, rfl, ?_⟩
    cases c with
    | false =>
      rw [if_neg Bool.false_ne_true] at q1 ⊢
      exact intoE (rs.keep k1) rh1 (ex.keep k1) q1 fun d w G2 H2 rd rh2 k2 q2 => k d w G2 H2 rd rh2 (k1.trans k2) q2
    | true =>
      rw [if_pos rfl] at q1 ⊢
      exact k _ _ G1 H1 (.bl true) rh1 k1 q1
theorem q_not (ha : QE T X W a ta) : QE T X W (.UnaryOp .Not a pos) (wNot ta) :=
  QE.of (pe_not ha.pe) fun env G σ H Q Ex Qv rs rh ex q k => intoE rs rh ex q fun x v G1 H1 rx rh1 k1 ⟨c, e, q1⟩ => by
    subst e
    cases rx
    exact ⟨c, rfl, k _ _ G1 H1 (.bl _) rh1 k1 q1⟩
def wIf (tc : TTd) (ta tb : TEd) : TEd := fun env G Q Ex => tc env G (fun c G1 => if c = true then ta env G1 Q Ex else tb env G1 Q Ex) Ex
theorem q_ife {c : Expr} (hc : QT T X W c tA) (ha : QE T X W a ta) (hb : QE T X W b tb) : QE T X W (.IfExp c a b pos) (wIf tA ta tb) :=
  QE.of (pe_ifExp hc.pt ha.pe hb.pe) fun env G σ H Q Ex Qv rs rh ex q k => intoT rs rh ex q fun c G1 H1 rh1 k1 q1 => by
    cases c with
    | false =>
      rw [if_neg Bool.false_ne_true] at q1 ⊢
      exact intoE (rs.keep k1) rh1 (ex.keep k1) q1 fun d w G2 H2 rd rh2 k2 q2 => k d w G2 H2 rd rh2 (k1.trans k2) q2
    | true =>
      rw [if_pos rfl] at q1 ⊢
      exact intoE (rs.keep k1) rh1 (ex.keep k1) q1 fun d w G2 H2 rd rh2 k2 q2 => k d w G2 H2 rd rh2 (k1.trans k2) q2
/-! ### argument lists, displays -/
def wNil : TAd := fun _ G Q _ => Q [] G
def wCons (t : TEd) (u : TAd) : TAd := fun env G Q Ex => t env G (fun d G1 => u env G1 (fun ds G2 => Q (d :: ds) G2) Ex) Ex
theorem qa_nil : QA T X W [] wNil := QA.of pa_nil fun env G σ H Q Ex Qv rs rh ex q k => k [] [] G H .nil rh (Keep.refl _ _) q
theorem qa_cons {u : TAd} (ha : QE T X W e t) (hr : QA T X W es u) (hs : starEach (e :: es) X.env = (false, eval e X.env) :: starEach es X.env := by rfl) : QA T X W (e :: es) (wCons t u) :=
  QA.of (pa_cons ha.pe hr.pa hs) fun env G σ H Q Ex Qv rs rh ex q k => intoE rs rh ex q fun d v G1 H1 rd rh1 k1 q1 => intoA (rs.keep k1) rh1 (ex.keep k1) q1 fun ds vs G2 H2 rds rh2 k2 q2 =>
    k _ _ G2 H2 (.cons (rd.keep k2) rds) rh2 (k1.trans k2) q2
def wTup (t : TAd) : TEd := fun env G Q Ex => t env G (fun ds G1 => ds.length ≤ sizeLine ∧ Q (.tup ds) G1) Ex
/-- a list that is never changed -/
def wLst (t : TAd) : TEd := fun env G Q Ex => t env G (fun ds G1 => ds.length ≤ sizeLine ∧ Q (.lst ds) G1) Ex
/-- a list that may be changed -/
def wLstM (t : TAd) : TEd := fun env G Q Ex => t env G (fun ds G1 => ds.length ≤ sizeLine ∧ ∀ p, G1 p = none → Q (.ref p) (gset G1 p (.lst ds))) Ex
theorem q_tup {u : TAd} {x1} (h : QA T X W es u) : QE T X W (.Tuple es x1 pos) (wTup u) :=
  QE.of (pe_tup h.pa) fun env G σ H Q Ex Qv rs rh ex q k => intoA rs rh ex q fun ds vs G1 H1 rds rh1 k1 ⟨l, q1⟩ => ⟨by rw [← rds.length]; exact l, fun p np =>
    k _ _ G1 _ (.tup (xs := vs) ⟨rh1.fresh np, .inl upd_same⟩ l (rds.keep (Keep.new np))) (rh1.new np) (k1.trans (Keep.new np)) q1⟩
theorem q_lst {u : TAd} (h : QA T X W es u) : QE T X W (.List es pos) (wLst u) :=
  QE.of (pe_lst h.pa) fun env G σ H Q Ex Qv rs rh ex q k => intoA rs rh ex q fun ds vs G1 H1 rds rh1 k1 ⟨l, q1⟩ => ⟨by rw [← rds.length]; exact l, fun p np =>
    k _ _ G1 _ (.lst (xs := vs) (rh1.fresh np) upd_same l (rds.keep (Keep.new np))) (rh1.new np) (k1.trans (Keep.new np)) q1⟩
theorem q_lstM {u : TAd} (h : QA T X W es u) : QE T X W (.List es pos) (wLstM u) :=
  QE.of (pe_lst h.pa) fun env G σ H Q Ex Qv rs rh ex q k => intoA rs rh ex q fun ds vs G1 H1 rds rh1 k1 ⟨l, q1⟩ => ⟨by rw [← rds.length]; exact l, fun p np =>
    k _ _ _ _ (.ref p) (rh1.newG (d := .lst ds) np ⟨vs, upd_same, l, rds.keep (Keep.newG np)⟩) (k1.trans (Keep.newG np)) (q1 p (rh1.fresh np))⟩
/-! ### built-in functions, by values -/
abbrev OL := List D → GH → DK → Prop
def CallI (T : Tb) (r0 : List V → Hp → VK → Prop) (o : OL) : Prop := ∀ G H ds vs (Q : DK) (Qv : VK), RH T G H → RVs T G H ds vs → o ds G Q → (∀ d w G' H', RV T G' H' d w → RH T G' H' → Keep G H G' H' → Q d G' → Qv w H') → r0 vs H Qv
def wCall (o : OL) (t : TAd) : TEd := fun env G Q Ex => t env G (fun ds G1 => o ds G1 Q) Ex
theorem q_callB {id : String} {x : Str} {p : Pos} {r0 : List V → Hp → VK → Prop} {o : OL} {u : TAd} (hc : CallR X (.builtin id) r0) (ci : CallI T r0 o) (hg : Gl X x) (hm : X.mg x = none) (hv : bootBuiltins x = some (.builtin id)) (ha : QA T X W (e :: es) u) (hn : x ≠ "__name__" := by decide) (hdb : (x == ("__debug__" : Str)) = false := by decide)
    (he : starEach (e :: es) X.env = (false, eval e X.env) :: starEach es X.env := by rfl) (hpl : (backTo pos (starEach es X.env)).any (·.1) = false := by rfl) : QE T X W (.Call (.Name x p) (e :: es) [] pos) (wCall o u) :=
  QE.of (pe_callB hc hg hm hv ha.pa hn hdb he hpl) fun env G σ H Q Ex Qv rs rh ex q k => intoA rs rh ex q fun ds vs G1 H1 rds rh1 k1 q1 => ci G1 H1 ds vs Q Qv rh1 rds q1 fun d w G' H' rd rh2 k2 q2 => k d w G' H' rd rh2 (k1.trans k2) q2
theorem q_callTy {T' : String} {x : Str} {p : Pos} {r0 : List V → Hp → VK → Prop} {o : OL} {u : TAd} (hc : CallR X (.type T') r0) (ci : CallI T r0 o) (hg : Gl X x) (hm : X.mg x = none) (hv : bootBuiltins x = some (.type T')) (ha : QA T X W (e :: es) u) (hn : x ≠ "__name__" := by decide) (hdb : (x == ("__debug__" : Str)) = false := by decide)
    (he : starEach (e :: es) X.env = (false, eval e X.env) :: starEach es X.env := by rfl) (hpl : (backTo pos (starEach es X.env)).any (·.1) = false := by rfl) : QE T X W (.Call (.Name x p) (e :: es) [] pos) (wCall o u) :=
  QE.of (pe_callTy hc hg hm hv ha.pa hn hdb he hpl) fun env G σ H Q Ex Qv rs rh ex q k => intoA rs rh ex q fun ds vs G1 H1 rds rh1 k1 q1 => ci G1 H1 ds vs Q Qv rh1 rds q1 fun d w G' H' rd rh2 k2 q2 => k d w G' H' rd rh2 (k1.trans k2) q2
end
end DL
set_option Elab.async false
set_option linter.all false
set_option maxRecDepth 100000
set_option maxHeartbeats 4000000
namespace DL
open PySem PySem.Spec PyProof.Rows L2

/-! ### arithmetic -/
def rOr (r r' : R2) : R2 := fun x y H Q => r x y H Q ∨ r' x y H Q
def addO : O2 := fun x y G Q => match x, y with
  | .int i, .int j => Q (.int (i + j)) G
  | .str a, .str b => a.length + b.length ≤ sizeLine ∧ Q (.str (a ++ b)) G
  | .tup a, .tup b => a.length + b.length ≤ sizeLine ∧ Q (.tup (a ++ b)) G
  | .lst a, .lst b => a.length + b.length ≤ sizeLine ∧ Q (.lst (a ++ b)) G
  | _, _ => False
def rStrAdd : R2 := fun x y H Q => ∃ i j, x = .str i ∧ y = .str j ∧ i.length + j.length ≤ sizeLine ∧ Q (.str (i ++ j)) H
theorem op_addD {X : Cx} : OpR X (binaryOp .Add) (rOr (rI0 fun i j => .int (i + j)) (rOr rStrAdd (rOr (rCatA X.K) rCat))) :=
  op_add.or (op_add_str.or (op_catA.or op_cat))
theorem oi_add {T : Tb} {K : PySem.W.Frag} (hK : K = T.K) : OpI T (rOr (rI0 fun i j => .int (i + j)) (rOr rStrAdd (rOr (rCatA K) rCat))) addO := by
  intro G H x y v u Q Qv rh rx ry q k
  subst hK
  cases rx with
  | int i =>
    cases ry with
    | int j => exact .inl ⟨i, j, rfl, rfl, k _ _ G H (.int _) rh (Keep.refl _ _) q⟩
    | _ => exact False.elim q
  | str a =>
    cases ry with
    | str b => exact .inr (.inl ⟨a, b, rfl, rfl, q.1, k _ _ G H (.str _) rh (Keep.refl _ _) q.2⟩)
    | _ => exact False.elim q
  | tup h l1 r =>
    rename_i a xs ds
    cases ry with
    | tup h2 l2 r2 =>
      rename_i b ys es
      have q1 : ds.length + es.length ≤ sizeLine := q.1
      have q2 : Q (.tup (ds ++ es)) G := q.2
      refine .inr (.inr (.inl ⟨a, b, xs, ys, rfl, rfl, h.sq, h2.sq, by rw [← r.length, ← r2.length]; exact q1, fun e => ?_, fun _ e => ?_, fun _ _ p np => ?_⟩))
      · subst e
        cases r
        exact k _ _ G H (.tup h2 l2 r2) rh (Keep.refl _ _) q2
      · subst e
        cases r2
        rw [List.append_nil] at q2
        exact k _ _ G H (.tup h l1 r) rh (Keep.refl _ _) q2
      · exact k _ _ G _ (.tup ⟨rh.fresh np, .inl upd_same⟩ (by rw [List.length_append]; exact q1) ((r.append r2).keep (Keep.new np))) (rh.new np) (Keep.new np) q2
    | _ => exact False.elim q
  | lst g h l1 r =>
    rename_i a xs ds
    cases ry with
    | lst g2 h2 l2 r2 =>
      rename_i b ys es
      have q1 : ds.length + es.length ≤ sizeLine := q.1
      have q2 : Q (.lst (ds ++ es)) G := q.2
      exact .inr (.inr (.inr ⟨a, b, xs, ys, rfl, rfl, h, h2, by rw [← r.length, ← r2.length]; exact q1, fun p np =>
        k _ _ G _ (.lst (rh.fresh np) upd_same (by rw [List.length_append]; exact q1) ((r.append r2).keep (Keep.new np))) (rh.new np) (Keep.new np) q2⟩))
    | _ => exact False.elim q
  | _ => cases ry <;> exact False.elim q
def intO (C : Int → Int → Prop) (g : Int → Int → D) : O2 := fun x y G Q => match x, y with
  | .int i, .int j => C i j ∧ Q (g i j) G
  | _, _ => False
theorem oi_int {T : Tb} {C : Int → Int → Prop} {g : Int → Int → V} {g' : Int → Int → D} (hg : ∀ G H i j, RV T G H (g' i j) (g i j)) : OpI T (rI C g) (intO C g') := by
  intro G H x y v u Q Qv rh rx ry q k
  cases rx with
  | int i =>
    cases ry with
    | int j => exact ⟨i, j, rfl, rfl, q.1, k _ _ G H (hg G H i j) rh (Keep.refl _ _) q.2⟩
    | _ => exact False.elim q
  | _ => cases ry <;> exact False.elim q
def int0 (g : Int → Int → D) : O2 := fun x y G Q => match x, y with
  | .int i, .int j => Q (g i j) G
  | _, _ => False
theorem oi_int0 {T : Tb} {g : Int → Int → V} {g' : Int → Int → D} (hg : ∀ G H i j, RV T G H (g' i j) (g i j)) : OpI T (rI0 g) (int0 g') := by
  intro G H x y v u Q Qv rh rx ry q k
  cases rx with
  | int i =>
    cases ry with
    | int j => exact ⟨i, j, rfl, rfl, k _ _ G H (hg G H i j) rh (Keep.refl _ _) q⟩
    | _ => exact False.elim q
  | _ => cases ry <;> exact False.elim q
abbrev subO : O2 := int0 fun i j => .int (i - j)
abbrev modO : O2 := intO (fun _ j => 0 < j) fun i j => .int (i % j)
abbrev fdivO : O2 := intO CDivW fun i j => .int (i / j)
abbrev mulIO : O2 := intO CMulW fun i j => .int (i * j)
abbrev mulO : O2 := intO CMul fun i j => .int (i * j)
abbrev powO : O2 := intO CPow fun i j => .int (i ^ j.toNat)
abbrev shlO : O2 := intO CPow fun i j => .int (i * 2 ^ j.toNat)
abbrev ltO : O2 := int0 fun i j => .bl (decide (i < j))
abbrev leO : O2 := int0 fun i j => .bl (decide (i ≤ j))
abbrev gtO : O2 := int0 fun i j => .bl (decide (j < i))
abbrev geO : O2 := int0 fun i j => .bl (decide (j ≤ i))
section
variable {T : Tb} {X : Cx} {W : WX} {e a b c : Expr} {es : List Expr} {t ta tb tc : TEd} {pos : Pos}
theorem q_add (hK : X.K = T.K) (ha : QE T X W a ta) (hb : QE T X W b tb) : QE T X W (.BinOp a .Add b pos) (wOp addO ta tb) := q_op op_addD (oi_add hK) ha hb
theorem q_sub (ha : QE T X W a ta) (hb : QE T X W b tb) : QE T X W (.BinOp a .Sub b pos) (wOp subO ta tb) := q_op op_sub (oi_int0 fun _ _ _ _ => .int _) ha hb
theorem q_mod (ha : QE T X W a ta) (hb : QE T X W b tb) : QE T X W (.BinOp a .Mod b pos) (wOp modO ta tb) := q_op op_mod (oi_int fun _ _ _ _ => .int _) ha hb
theorem q_fdiv (ha : QE T X W a ta) (hb : QE T X W b tb) : QE T X W (.BinOp a .FloorDiv b pos) (wOp fdivO ta tb) := q_op op_fdivW (oi_int fun _ _ _ _ => .int _) ha hb
theorem q_mul (ha : QE T X W a ta) (hb : QE T X W b tb) : QE T X W (.BinOp a .Mult b pos) (wOp mulO ta tb) := q_op op_mul (oi_int fun _ _ _ _ => .int _) ha hb
theorem q_mulW (ha : QE T X W a ta) (hb : QE T X W b tb) : QE T X W (.BinOp a .Mult b pos) (wOp mulIO ta tb) := q_op op_mulW (oi_int fun _ _ _ _ => .int _) ha hb
theorem q_pow (ha : QE T X W a ta) (hb : QE T X W b tb) : QE T X W (.BinOp a .Pow b pos) (wOp powO ta tb) := q_op op_pow (oi_int fun _ _ _ _ => .int _) ha hb
theorem q_shl (ha : QE T X W a ta) (hb : QE T X W b tb) : QE T X W (.BinOp a .LShift b pos) (wOp shlO ta tb) := q_op op_shl (oi_int fun _ _ _ _ => .int _) ha hb
theorem q_lt (ha : QE T X W a ta) (hb : QE T X W b tb) : QE T X W (.Compare a [.Lt] [b] pos) (wOp ltO ta tb) := q_cmp op_lt (oi_int0 fun _ _ _ _ => .bl _) ha hb
theorem q_le (ha : QE T X W a ta) (hb : QE T X W b tb) : QE T X W (.Compare a [.LtE] [b] pos) (wOp leO ta tb) := q_cmp op_le (oi_int0 fun _ _ _ _ => .bl _) ha hb
theorem q_gt (ha : QE T X W a ta) (hb : QE T X W b tb) : QE T X W (.Compare a [.Gt] [b] pos) (wOp gtO ta tb) := q_cmp op_gt (oi_int0 fun _ _ _ _ => .bl _) ha hb
theorem q_ge (ha : QE T X W a ta) (hb : QE T X W b tb) : QE T X W (.Compare a [.GtE] [b] pos) (wOp geO ta tb) := q_cmp op_ge (oi_int0 fun _ _ _ _ => .bl _) ha hb
theorem qt_lt (ha : QE T X W a ta) (hb : QE T X W b tb) : QT T X W (.Compare a [.Lt] [b] pos) (wTest (wOp ltO ta tb)) := qt_cmp op_lt (oi_int0 fun _ _ _ _ => .bl _) ha hb
theorem qt_le (ha : QE T X W a ta) (hb : QE T X W b tb) : QT T X W (.Compare a [.LtE] [b] pos) (wTest (wOp leO ta tb)) := qt_cmp op_le (oi_int0 fun _ _ _ _ => .bl _) ha hb
theorem qt_gt (ha : QE T X W a ta) (hb : QE T X W b tb) : QT T X W (.Compare a [.Gt] [b] pos) (wTest (wOp gtO ta tb)) := qt_cmp op_gt (oi_int0 fun _ _ _ _ => .bl _) ha hb
theorem qt_ge (ha : QE T X W a ta) (hb : QE T X W b tb) : QT T X W (.Compare a [.GtE] [b] pos) (wTest (wOp geO ta tb)) := qt_cmp op_ge (oi_int0 fun _ _ _ _ => .bl _) ha hb
def negO : TEd → TEd := fun ta env G Q Ex => ta env G (fun x G1 => ∃ i, x = .int i ∧ Q (.int (-i)) G1) Ex
theorem q_neg (ha : QE T X W a ta) : QE T X W (.UnaryOp .USub a pos) (negO ta) :=
  QE.of (pe_un un_neg ha.pe) fun env G σ H Q Ex Qv rs rh ex q k => intoE rs rh ex q fun x v G1 H1 rx rh1 k1 ⟨i, e, q1⟩ => by
    subst e
    cases rx
    exact ⟨i, rfl, k _ _ G1 H1 (.int _) rh1 k1 q1⟩
/-- a op b op' c -/
def wChain (o o' : O2) (ta tb tc : TEd) : TEd := fun env G Q Ex => ta env G (fun x G1 => tb env G1 (fun y G2 => o x y G2 (fun z G3 => ∃ k, z = .bl k ∧ if k = true then tc env G3 (fun w G4 => o' y w G4 Q) Ex else Q (.bl false) G3)) Ex) Ex
theorem chain_in {r r' : R2} {o o' : O2} (oi : OpI T r o) (oi' : OpI T r' o') {env : Ev} {G : GH} {H : Hp} {σ : List (Option V)} {Q : DK} {Ex : DX} {Qv : VK} (rs : RS T G H env σ) (rh : RH T G H) (ex : ExOk T W G H σ Ex) (q : wChain o o' ta tb tc env G Q Ex)
    (k : ∀ d v G' H', RV T G' H' d v → RH T G' H' → Keep G H G' H' → Q d G' → Qv v H') : tChain r r' (liftE T W ta) (liftE T W tb) (liftE T W tc) σ H Qv :=
  intoE rs rh ex q fun x v G1 H1 rx rh1 k1 q1 => intoE (rs.keep k1) rh1 (ex.keep k1) q1 fun y u G2 H2 ry rh2 k2 q2 =>
    oi G2 H2 x y v u _ _ rh2 (rx.keep k2) ry q2 fun d w G3 H3 rd rh3 k3 ⟨b, e, q3⟩ => by
      subst e
      cases rd
      refine ⟨b, rfl, ?_⟩
      have k123 := (k1.trans k2).trans k3
      cases b with
      | true =>
        rw [if_pos rfl] at q3 ⊢
        exact intoE (rs.keep k123) rh3 (ex.keep k123) q3 fun z w' G4 H4 rz rh4 k4 q4 =>
          oi' G4 H4 y z u w' Q Qv rh4 (ry.keep (k3.trans k4)) rz q4 fun d5 v5 G5 H5 r5 rh5 k5 q5 => k d5 v5 G5 H5 r5 rh5 ((k123.trans k4).trans k5) q5
      | false =>
        rw [if_neg Bool.false_ne_true] at q3 ⊢
        exact k _ _ G3 H3 (.bl false) rh3 k123 q3
theorem q_chain {op op' : CmpOp} {r r' : R2} {o o' : O2} (ho : OpR X (compareOp op) r) (ho' : OpR X (compareOp op') r') (oi : OpI T r o) (oi' : OpI T r' o') (ha : QE T X W a ta) (hb : QE T X W b tb) (hc : QE T X W c tc)
    (h : PE X (.Compare a [op, op'] [b, c] pos) (tChain r r' (liftE T W ta) (liftE T W tb) (liftE T W tc))) : QE T X W (.Compare a [op, op'] [b, c] pos) (wChain o o' ta tb tc) :=
  QE.of h fun env G σ H Q Ex Qv rs rh ex q k => chain_in oi oi' rs rh ex q k
theorem qt_chain {op op' : CmpOp} {r r' : R2} {o o' : O2} (oi : OpI T r o) (oi' : OpI T r' o')
    (h : PT X (.Compare a [op, op'] [b, c] pos) (tTest (tChain r r' (liftE T W ta) (liftE T W tb) (liftE T W tc)))) : QT T X W (.Compare a [op, op'] [b, c] pos) (wTest (wChain o o' ta tb tc)) :=
  QT.of h fun env G σ H Q Ex Qv rs rh ex q k => chain_in (Qv := fun x H' => ∃ c, x = .bl c ∧ Qv c H') oi oi' rs rh ex q fun d v G' H' rd rh' kk ⟨c, e, q'⟩ => by
    subst e
    cases rd
    exact ⟨c, rfl, k c G' H' rh' kk q'⟩
end
end DL
set_option Elab.async false
set_option linter.all false
set_option maxRecDepth 100000
set_option maxHeartbeats 4000000
namespace DL
open PySem PySem.Spec PyProof.Rows L2

/-! ### indices -/
theorem atI_rv {T : Tb} {G : GH} {H : Hp} {ds : List D} {vs : List V} {i : Int} {d : D} (r : RVs T G H ds vs) (h : atI ds i = some d) : ∃ v, atI vs i = some v ∧ RV T G H d v := by
  unfold atI at h ⊢
  rw [← r.length]
  cases e : ixN ds.length i with
  | none => rw [e] at h; cases h
  | some j =>
    rw [e] at h
    obtain ⟨v, h1, h2⟩ := r.get (i := j) (d := d) h
    exact ⟨v, h1, h2⟩
def ixO : O2 := fun x y G Q => match y with
  | .int i => match x with
    | .tup ds => ∃ d, atI ds i = some d ∧ Q d G
    | .lst ds => ∃ d, atI ds i = some d ∧ Q d G
    | .frl ds => ∃ d, atI ds i = some d ∧ Q d G
    | .str z => z.length ≤ sizeLine ∧ ∃ c, atI z.cps.toList i = some c ∧ Q (.str ⟨#[c]⟩) G
    | .ref a => ∃ ds, G a = some (.lst ds) ∧ ∃ d, atI ds i = some d ∧ Q d G
    | _ => False
  | _ => False
theorem oi_ix {T : Tb} {K : PySem.W.Frag} (hK : K = T.K) : OpI T (rIx K) ixO := by
  intro G H x y v u Q Qv rh rx ry q k
  subst hK
  cases ry with
  | int i =>
    cases rx with
    | tup h _ r =>
      obtain ⟨d, e, q⟩ := q
      obtain ⟨w, h1, h2⟩ := atI_rv r e
      exact .inr (.inl ⟨_, _, i, w, rfl, rfl, h.sq, h1, k d w G H h2 rh (Keep.refl _ _) q⟩)
    | lst g h _ r =>
      obtain ⟨d, e, q⟩ := q
      obtain ⟨w, h1, h2⟩ := atI_rv r e
      exact .inl ⟨_, _, i, w, rfl, rfl, SqL.of h, h1, k d w G H h2 rh (Keep.refl _ _) q⟩
    | frl h _ r =>
      obtain ⟨d, e, q⟩ := q
      obtain ⟨w, h1, h2⟩ := atI_rv r e
      exact .inl ⟨_, _, i, w, rfl, rfl, h.sq, h1, k d w G H h2 rh (Keep.refl _ _) q⟩
    | str z =>
      obtain ⟨hz, c, e, q⟩ := q
      exact .inr (.inr ⟨z, i, c, rfl, rfl, hz, e, k _ _ G H (.str _) rh (Keep.refl _ _) q⟩)
    | ref a =>
      obtain ⟨ds, g, d, e, q⟩ := q
      obtain ⟨xs, hx, _, r⟩ := rh a _ g
      obtain ⟨w, h1, h2⟩ := atI_rv r e
      exact .inl ⟨_, _, i, w, rfl, rfl, SqL.of hx, h1, k d w G H h2 rh (Keep.refl _ _) q⟩
    | _ => exact False.elim q
  | _ => exact False.elim q
/-! ### slices -/
def cutD {α : Type} (xs : List α) (lo hi : Option Int) : List α := (xs.drop (HT.sIx xs.length 0 lo)).take (HT.sIx xs.length xs.length hi - HT.sIx xs.length 0 lo)
theorem cut_len {α : Type} (ds : List α) (lo hi : Option Int) : (cutD ds lo hi).length ≤ ds.length := by
  unfold cutD
  rw [List.length_take, List.length_drop]
  omega
theorem cut_rv {T : Tb} {G : GH} {H : Hp} {ds : List D} {vs : List V} (r : RVs T G H ds vs) (lo hi : Option Int) : RVs T G H (cutD ds lo hi) (cutV vs lo hi) := by
  unfold cutD cutV
  rw [← r.length]
  exact (r.drop _).take _
abbrev OSl := D → Option Int → Option Int → GH → DK → Prop
/-- a slice; of a list: a new list that is never changed -/
def slO : OSl := fun x lo hi G Q => match x with
  | .tup ds => Q (.tup (cutD ds lo hi)) G
  | .lst ds => Q (.lst (cutD ds lo hi)) G
  | .frl ds => Q (.lst (cutD ds lo hi)) G
  | .str z => z.length ≤ sizeLine ∧ Q (.str (cutS z lo hi)) G
  | .ref a => ∃ ds, G a = some (.lst ds) ∧ Q (.lst (cutD ds lo hi)) G
  | _ => False
def rSl3 (K : PySem.W.Frag) : V → Option Int → Option Int → Hp → VK → Prop := fun x lo hi H Q => rSlA K x lo hi H Q ∨ (rSlL K x lo hi H Q ∨ rSlS x lo hi H Q)
theorem sl_D {X : Cx} : SlR X (rSl3 X.K) := sl_tupA.or (sl_list.or sl_str)
abbrev TOd := Ev → GH → (Option Int → GH → Prop) → DX → Prop
def liftO (T : Tb) (W : WX) (t : TOd) : TO := fun σ H Qo => ∃ env G Q Ex, RS T G H env σ ∧ RH T G H ∧ ExOk T W G H σ Ex ∧ t env G Q Ex ∧ ∀ o H' G', RH T G' H' → Keep G H G' H' → Q o G' → Qo o H'
structure QO (T : Tb) (X : Cx) (W : WX) (e : Option Expr) (t : TOd) : Prop where
  po : PO X e (liftO T W t)
def wNoPart : TOd := fun _ G Q _ => Q none G
def wPart (t : TEd) : TOd := fun env G Q Ex => t env G (fun d G1 => ∃ i, d = .int i ∧ Q (some i) G1) Ex
section
variable {T : Tb} {X : Cx} {W : WX} {e a b : Expr} {es : List Expr} {t ta tb : TEd} {pos p2 : Pos} {lo hi : Option Expr} {tl th : TOd}
theorem intoO {t : TOd} {env : Ev} {G : GH} {H : Hp} {σ : List (Option V)} {Q : Option Int → GH → Prop} {Ex : DX} {Qv : Option Int → Hp → Prop} (rs : RS T G H env σ) (rh : RH T G H) (ex : ExOk T W G H σ Ex) (h : t env G Q Ex)
    (k : ∀ o G' H', RH T G' H' → Keep G H G' H' → Q o G' → Qv o H') : liftO T W t σ H Qv := ⟨env, G, Q, Ex, rs, rh, ex, h, fun o H' G' => k o G' H'⟩
theorem PO.imp {oe : Option Expr} {t0 t1 : TO} (h : PO X oe t0) (hi : ∀ σ H Q, t1 σ H Q → t0 σ H Q) : PO X oe t1 := ⟨fun pins s σ H Q I q => h.run pins s σ H Q I (hi σ H Q q)⟩
theorem qo_none : QO T X W none wNoPart := ⟨PO.imp po_none fun σ H Qo ⟨env, G, Q, Ex, rs, rh, ex, q, k⟩ => k none H G rh (Keep.refl _ _) q⟩
theorem qo_some (h : QE T X W e t) : QO T X W (some e) (wPart t) := ⟨PO.imp (po_some h.pe) fun σ H Qo ⟨env, G, Q, Ex, rs, rh, ex, q, k⟩ => intoE rs rh ex q fun d v G1 H1 rd rh1 k1 ⟨i, e, q1⟩ => by
  subst e
  cases rd
  exact ⟨i, rfl, k (some i) H1 G1 rh1 k1 q1⟩⟩
theorem q_ix (hK : X.K = T.K) (ha : QE T X W a ta) (hb : QE T X W b tb) (hs : PlainIx b := by intro _ _; rfl) : QE T X W (.Subscript a b pos) (wOp ixO ta tb) :=
  QE.of (pe_ix ix_seq ha.pe hb.pe hs) fun env G σ H Q Ex Qv rs rh ex q k => tOp_in (oi_ix hK) rs rh ex q k
def wSl (o : OSl) (ta : TEd) (tl th : TOd) : TEd := fun env G Q Ex => ta env G (fun x G1 => tl env G1 (fun l G2 => th env G2 (fun u G3 => o x l u G3 Q) Ex) Ex) Ex
theorem q_slice (hK : X.K = T.K) (ha : QE T X W e ta) (hl : QO T X W lo tl) (hu : QO T X W hi th) : QE T X W (.Subscript e (.Slice lo hi none p2) pos) (wSl slO ta tl th) :=
  QE.of (pe_slice sl_D ha.pe hl.po hu.po) fun env G σ H Q Ex Qv rs rh ex q k => intoE rs rh ex q fun x v G1 H1 rx rh1 k1 q1 => intoO (rs.keep k1) rh1 (ex.keep k1) q1 fun l G2 H2 rh2 k2 q2 =>
    intoO (rs.keep (k1.trans k2)) rh2 (ex.keep (k1.trans k2)) q2 fun u G3 H3 rh3 k3 q3 => by
      have kk := (k1.trans k2).trans k3
      have rx3 := rx.keep (k2.trans k3)
      rw [hK]
      cases rx3 with
      | tup h hl r =>
        rename_i a xs ds
        have q3 : Q (.tup (cutD ds l u)) G3 := q3
        refine .inl ⟨a, xs, rfl, h.sq, fun ⟨e1, e2⟩ => ?_, fun _ p np => ?_⟩
        · have e : cutD ds l u = ds := by
            unfold cutD
            rw [r.length, e1, e2, List.drop_zero, Nat.sub_zero, ← r.length, List.take_length]
          rw [e] at q3
          exact k _ _ G3 H3 (.tup h hl r) rh3 kk q3
        · exact k _ _ G3 _ (.tup ⟨rh3.fresh np, .inl upd_same⟩ (Nat.le_trans (cut_len _ _ _) hl) ((cut_rv r l u).keep (Keep.new np))) (rh3.new np) (kk.trans (Keep.new np)) q3
      | lst g h hl r => exact .inr (.inl ⟨_, _, rfl, SqL.of h, fun p np => k _ _ G3 _ (.lst (rh3.fresh np) upd_same (Nat.le_trans (cut_len _ _ _) hl) ((cut_rv r l u).keep (Keep.new np))) (rh3.new np) (kk.trans (Keep.new np)) q3⟩)
      | frl h hl r => exact .inr (.inl ⟨_, _, rfl, h.sq, fun p np => k _ _ G3 _ (.lst (rh3.fresh np) upd_same (Nat.le_trans (cut_len _ _ _) hl) ((cut_rv r l u).keep (Keep.new np))) (rh3.new np) (kk.trans (Keep.new np)) q3⟩)
      | str z => exact .inr (.inr ⟨z, rfl, q3.1, k _ _ G3 H3 (.str _) rh3 kk q3.2⟩)
      | ref a =>
        obtain ⟨ds, g, q3⟩ := q3
        obtain ⟨xs, hx, hl, r⟩ := rh3 a _ g
        exact .inr (.inl ⟨_, _, rfl, SqL.of hx, fun p np => k _ _ G3 _ (.lst (rh3.fresh np) upd_same (Nat.le_trans (cut_len _ _ _) hl) ((cut_rv r l u).keep (Keep.new np))) (rh3.new np) (kk.trans (Keep.new np)) q3⟩)
      | _ => exact False.elim q3
end
/-! ### == of plain data -/
mutual
def pyD : D → PyData
  | .non => .none
  | .bl b => .bool b
  | .int i => .int i
  | .str x => .str x
  | .tup xs => .tuple (pyDs xs)
  | .tupp xs => .tuple (pyDs xs)
  | .lst xs => .list (pyDs xs)
  | .frl xs => .list (pyDs xs)
  | .ty _ => .dict []
  | .ref _ => .dict []
  | .dic _ _ => .dict []
  | .obj _ _ => .dict []
  | .exc _ _ _ _ => .dict []
def pyDs : List D → List PyData
  | [] => []
  | d :: ds => pyD d :: pyDs ds
end
theorem FzT.frz {K : PySem.W.Frag} {G : GH} {H : Hp} {a : Addr} {xs : List V} {o : Obj} (g : G a = none) (h : H a = some (.frz o (.tup xs))) (hd : o.dict = none) (n : NI xs) : FzT K G H a xs :=
  ⟨g, .inr ⟨n, o, h, hd⟩⟩
mutual
theorem RV.dp {T : Tb} {G : GH} {H : Hp} : ∀ {d : D} {v : V}, RV T G H d v → (pyD d).canLay0 = true → Dp T.K H v (pyD d)
  | _, _, .non, _ => .non
  | _, _, .bl b, _ => .bl b
  | _, _, .int i, _ => .int i
  | _, _, .str x, _ => .str x
  | _, _, .ty n, h => by unfold pyD PyData.canLay0 at h; cases h
  | _, _, .ref a, h => by unfold pyD PyData.canLay0 at h; cases h
  | _, _, .dic _ _ _ _ _, h => by unfold pyD PyData.canLay0 at h; cases h
  | _, _, .obj _ _ _ _, h => by unfold pyD PyData.canLay0 at h; cases h
  | _, _, .exc _ _ _ _, h => by unfold pyD PyData.canLay0 at h; cases h
  | _, _, .tup hx _ r, h => by unfold pyD; exact .tup hx.sq (RVs.dp r (by unfold pyD PyData.canLay0 at h; exact h))
  | _, _, .tupp g hx hd n _ r, h => by unfold pyD; exact .tup (FzT.frz (K := T.K) g hx hd n).sq (RVs.dp r (by unfold pyD PyData.canLay0 at h; exact h))
  | _, _, .lst _ hx _ r, h => by unfold pyD; exact .lst (SqL.of hx) (RVs.dp r (by unfold pyD PyData.canLay0 at h; exact h))
  | _, _, .frl hx _ r, h => by unfold pyD; exact .lst hx.sq (RVs.dp r (by unfold pyD PyData.canLay0 at h; exact h))
theorem RVs.dp {T : Tb} {G : GH} {H : Hp} : ∀ {ds : List D} {vs : List V}, RVs T G H ds vs → PyData.canLayAll0 (pyDs ds) = true → DpAll T.K H vs (pyDs ds)
  | _, _, .nil, _ => .nil
  | _, _, .cons a b, h => by
    unfold pyDs PyData.canLayAll0 at h
    have h' := Bool.and_eq_true_iff.mp h
    unfold pyDs
    exact .cons (RV.dp a h'.1) (RVs.dp b h'.2)
end
/-- the list at a changing address -/
def lstAt : Option DO → Option (List D)
  | some (.lst ds) => some ds
  | _ => none
theorem lstAt_some {o : Option DO} {ds : List D} (h : lstAt o = some ds) : o = some (.lst ds) := by
  cases o with
  | none => cases h
  | some o =>
    cases o with
    | lst xs => cases h; rfl
    | dic _ _ => cases h
    | ins _ _ => cases h
    | exo _ => cases h
    | dct _ _ => cases h
/-- the list at a changing address, read as data -/
def topD (G : GH) : D → D
  | .ref a => (lstAt (G a)).elim (.ref a) D.lst
  | d => d
theorem topD_ref {G : GH} {a : Addr} {ds : List D} (h : G a = some (.lst ds)) : topD G (.ref a) = .lst ds := by
  show (lstAt (G a)).elim (.ref a) D.lst = _
  rw [h]; rfl
theorem topD_refN {G : GH} {a : Addr} (h : lstAt (G a) = none) : topD G (.ref a) = .ref a := by
  show (lstAt (G a)).elim (.ref a) D.lst = _
  rw [h]; rfl
theorem topD_cases (G : GH) (a : Addr) : (topD G (.ref a) = .ref a) ∨ ∃ ds, G a = some (.lst ds) ∧ topD G (.ref a) = .lst ds := by
  cases e : lstAt (G a) with
  | none => exact .inl (topD_refN e)
  | some ds => exact .inr ⟨ds, lstAt_some e, topD_ref (lstAt_some e)⟩
theorem topD_dp {T : Tb} {G : GH} {H : Hp} (rh : RH T G H) {d : D} {v : V} (r : RV T G H d v) (h : (pyD (topD G d)).canLay0 = true) : Dp T.K H v (pyD (topD G d)) := by
  cases r with
  | ref a =>
    rcases topD_cases G a with e | ⟨ds, g, e⟩
    · rw [e] at h
      unfold pyD PyData.canLay0 at h
      cases h
    · rw [e] at h ⊢
      obtain ⟨xs, hx, _, r⟩ := rh a _ g
      unfold pyD PyData.canLay0 at h
      unfold pyD
      exact .lst (SqL.of hx) (RVs.dp r h)
  | non => exact RV.dp (G := G) .non h
  | bl b => exact RV.dp (G := G) (.bl b) h
  | int i => exact RV.dp (G := G) (.int i) h
  | str x => exact RV.dp (G := G) (.str x) h
  | ty n => exact RV.dp (G := G) (.ty n) h
  | tup a l b => exact RV.dp (.tup a l b) h
  | tupp a b c d e f => exact RV.dp (.tupp a b c d e f) h
  | lst a b l c => exact RV.dp (.lst a b l c) h
  | frl a l b => exact RV.dp (.frl a l b) h
  | dic a b c d e => exact RV.dp (.dic a b c d e) h
  | obj a b c d => exact RV.dp (.obj a b c d) h
  | exc a b c d => exact RV.dp (.exc a b c d) h
/-- plain data of depth 60 at most -/
def okD (d : D) : Bool := SeqAt.shaped (pyD d)
def eqD (x y : D) : Bool := PyData.eqv (pyD x) (pyD y)
def eqG (x y : D) (G : GH) (Q : DK) : Prop := okD (topD G x) = true ∧ okD (topD G y) = true ∧ Q (.bl (eqD (topD G x) (topD G y))) G
def neG (x y : D) (G : GH) (Q : DK) : Prop := okD (topD G x) = true ∧ okD (topD G y) = true ∧ Q (.bl (!eqD (topD G x) (topD G y))) G
def eqS (u : Str) (y : D) (G : GH) (Q : DK) : Prop := match y with
  | .str v => Q (.bl (decide (u = v))) G
  | y => eqG (.str u) y G Q
def neS (u : Str) (y : D) (G : GH) (Q : DK) : Prop := match y with
  | .str v => Q (.bl (!decide (u = v))) G
  | y => neG (.str u) y G Q
def eqO : O2 := fun x y G Q => match x with
  | .str u => eqS u y G Q
  | x => eqG x y G Q
def neO : O2 := fun x y G Q => match x with
  | .str u => neS u y G Q
  | x => neG x y G Q
def rOr2 (r r' : R2) : R2 := fun x y H Q => r x y H Q ∨ r' x y H Q
theorem scal_ss (u v : Str) : scal (.str u) (.str v) = true := rfl
theorem dec_vs (u v : Str) : decide (V.str u = V.str v) = decide (u = v) := by
  by_cases h : u = v
  · rw [decide_eq_true h, decide_eq_true (congrArg V.str h)]
  · rw [decide_eq_false h, decide_eq_false fun e => h (V.str.inj e)]
theorem eqG_in {T : Tb} {G : GH} {H : Hp} {x y : D} {v u : V} {Q : DK} {Qv : VK} (rh : RH T G H) (rx : RV T G H x v) (ry : RV T G H y u) (h : eqG x y G Q)
    (k : ∀ d w G' H', RV T G' H' d w → RH T G' H' → Keep G H G' H' → Q d G' → Qv w H') : rOr2 (rEqD T.K) rEq v u H Qv := by
  obtain ⟨h1, h2, q⟩ := h
  exact .inl ⟨_, _, topD_dp rh rx (SeqAt.canLay_of_shaped h1), topD_dp rh ry (SeqAt.canLay_of_shaped h2), h1, h2, k _ _ G H (.bl _) rh (Keep.refl _ _) q⟩
theorem neG_in {T : Tb} {G : GH} {H : Hp} {x y : D} {v u : V} {Q : DK} {Qv : VK} (rh : RH T G H) (rx : RV T G H x v) (ry : RV T G H y u) (h : neG x y G Q)
    (k : ∀ d w G' H', RV T G' H' d w → RH T G' H' → Keep G H G' H' → Q d G' → Qv w H') : rOr2 (rNeD T.K) rNe v u H Qv := by
  obtain ⟨h1, h2, q⟩ := h
  exact .inl ⟨_, _, topD_dp rh rx (SeqAt.canLay_of_shaped h1), topD_dp rh ry (SeqAt.canLay_of_shaped h2), h1, h2, k _ _ G H (.bl _) rh (Keep.refl _ _) q⟩
theorem oi_eq {T : Tb} {K : PySem.W.Frag} (hK : K = T.K) : OpI T (rOr2 (rEqD K) rEq) eqO := by
  intro G H x y v u Q Qv rh rx ry q k
  subst hK
  have gen : eqG x y G Q → rOr2 (rEqD T.K) rEq v u H Qv := fun h => eqG_in rh rx ry h k
  cases rx with
  | str a =>
    have q : eqS a y G Q := q
    cases ry with
    | str b => exact .inr ⟨scal_ss a b, by rw [dec_vs]; exact k _ _ G H (.bl _) rh (Keep.refl _ _) q⟩
    | _ => exact gen q
  | _ => exact gen q
theorem oi_ne {T : Tb} {K : PySem.W.Frag} (hK : K = T.K) : OpI T (rOr2 (rNeD K) rNe) neO := by
  intro G H x y v u Q Qv rh rx ry q k
  subst hK
  have gen : neG x y G Q → rOr2 (rNeD T.K) rNe v u H Qv := fun h => neG_in rh rx ry h k
  cases rx with
  | str a =>
    have q : neS a y G Q := q
    cases ry with
    | str b => exact .inr ⟨scal_ss a b, by rw [dec_vs]; exact k _ _ G H (.bl _) rh (Keep.refl _ _) q⟩
    | _ => exact gen q
  | _ => exact gen q
theorem op_eqO {X : Cx} (hu : X.A.units + 64 < cLine) : OpR X (compareOp .Eq) (rOr2 (rEqD X.K) rEq) := (op_eqD hu).or op_eq
theorem op_neO {X : Cx} (hu : X.A.units + 64 < cLine) : OpR X (compareOp .NotEq) (rOr2 (rNeD X.K) rNe) := (op_neD hu).or op_ne
/-! ### built-in functions -/
def lenO1 (x : D) (G : GH) (Q : DK) : Prop := match x with
  | .str z => z.length ≤ sizeLine ∧ Q (.int z.length) G
  | .tup xs => Q (.int xs.length) G
  | .lst xs => Q (.int xs.length) G
  | .frl xs => Q (.int xs.length) G
  | _ => False
def lenO : OL := fun ds G Q => match ds with
  | [x] => lenO1 (topD G x) G Q
  | _ => False
def rLen (K : PySem.W.Frag) : List V → Hp → VK → Prop := fun xs H Q => ∃ x n, xs = [x] ∧ LenV K x H n ∧ Q (.int n) H
theorem ci_len {T : Tb} {K : PySem.W.Frag} (hK : K = T.K) : CallI T (rLen K) lenO := by
  intro G H ds vs Q Qv rh r q k
  subst hK
  cases r with
  | nil => exact False.elim q
  | cons rx rr =>
    cases rr with
    | cons _ _ => exact False.elim q
    | nil =>
      cases rx with
      | str z => exact ⟨_, z.length, rfl, ⟨q.1, rfl⟩, k _ _ G H (.int _) rh (Keep.refl _ _) q.2⟩
      | tup h _ r => exact ⟨_, _, rfl, .inr ⟨_, h.sq, rfl⟩, k _ _ G H (.int _) rh (Keep.refl _ _) (by rw [← r.length]; exact q)⟩
      | lst g h _ r => exact ⟨_, _, rfl, .inl ⟨_, SqL.of h, rfl⟩, k _ _ G H (.int _) rh (Keep.refl _ _) (by rw [← r.length]; exact q)⟩
      | frl h _ r => exact ⟨_, _, rfl, .inl ⟨_, h.sq, rfl⟩, k _ _ G H (.int _) rh (Keep.refl _ _) (by rw [← r.length]; exact q)⟩
      | ref a =>
        rcases topD_cases G a with e | ⟨ds, g, e⟩
        · have q' : lenO1 (topD G (.ref a)) G Q := q
          rw [e] at q'
          exact False.elim q'
        · have q' : lenO1 (topD G (.ref a)) G Q := q
          rw [e] at q'
          obtain ⟨xs, hx, _, r⟩ := rh a _ g
          exact ⟨_, _, rfl, .inl ⟨_, SqL.of hx, rfl⟩, k _ _ G H (.int _) rh (Keep.refl _ _) (by rw [← r.length]; exact q')⟩
      | _ => exact False.elim q
/-- isinstance by a built-in type -/
def tyO : Option DO → Option String
  | some (.lst _) => some "list"
  | some (.dic _ _) => some "dict"
  | _ => none
def tyD (G : GH) : D → Option String
  | .non => some "NoneType"
  | .bl _ => some "bool"
  | .int _ => some "int"
  | .str _ => some "str"
  | .tup _ => some "tuple"
  | .tupp _ => some "tuple"
  | .lst _ => some "list"
  | .frl _ => some "list"
  | .dic _ _ => some "dict"
  | .ref a => tyO (G a)
  | _ => none
def instB (a b : String) : Bool := a == b || (a == "bool" && b == "int")
def tyNames : List String := ["NoneType", "bool", "int", "str", "tuple", "list", "dict"]
def clsNames : List String := ["int", "str", "bool", "tuple", "list", "dict"]
theorem kit_all : ∀ a ∈ tyNames, ∀ b ∈ clsNames, kitB a b = some (instB a b) := by decide +kernel
theorem tyD_mem {G : GH} {x : D} {a : String} (h : tyD G x = some a) : a ∈ tyNames := by
  have key : ∀ {s : String}, s ∈ tyNames → some s = some a → a ∈ tyNames := fun m e => by cases e; exact m
  cases x with
  | ref p =>
    have h : tyO (G p) = some a := h
    cases e : G p with
    | none => rw [e] at h; cases h
    | some o =>
      rw [e] at h
      cases o with
      | lst _ => exact key (by decide) h
      | dic _ _ => exact key (by decide) h
      | ins _ _ => cases h
      | exo _ => cases h
      | dct _ _ => cases h
  | non => exact key (by decide) h
  | bl _ => exact key (by decide) h
  | int _ => exact key (by decide) h
  | str _ => exact key (by decide) h
  | tup _ => exact key (by decide) h
  | lst _ => exact key (by decide) h
  | frl _ => exact key (by decide) h
  | dic _ _ => exact key (by decide) h
  | ty _ => cases h
  | obj _ _ => cases h
  | exc _ _ _ _ => cases h
  | tupp _ => exact key (by decide) h
theorem tyX_of {T : Tb} {G : GH} {H : Hp} (rh : RH T G H) {x : D} {v : V} (r : RV T G H x v) {a : String} (h : tyD G x = some a) : TyX T.K H v (.type a) := by
  have key : ∀ {s : String}, some s = some a → TyX T.K H v (.type s) → TyX T.K H v (.type a) := fun e x => by cases e; exact x
  cases r with
  | non => exact key h (.base .non)
  | bl b => exact key h (.base (.bl b))
  | int i => exact key h (.base (.int i))
  | str z => exact key h (.base (.str z))
  | tup hx _ r =>
    rcases hx.2 with hx | ⟨_, o, hx, _⟩
    · exact key h (.base (.tup hx))
    · exact key h (.fTuple hx)
  | lst g hx _ r => exact key h (.base (.lst hx))
  | frl hx _ r =>
    refine key h ?_
    rcases hx with ⟨_, o, hx⟩ | ⟨o, _, _, hk, hc, _⟩
    · exact .base (.frz hx)
    · exact .kList hk hc
  | dic g hx e l r => exact key h (.base (.dK hx))
  | ty _ => cases h
  | tupp g hx hd n l r => exact key h (.fTuple hx)
  | obj _ _ _ _ => cases h
  | exc _ _ _ _ => cases h
  | ref p =>
    have h : tyO (G p) = some a := h
    cases e : G p with
    | none => rw [e] at h; cases h
    | some o =>
      rw [e] at h
      cases o with
      | lst ds =>
        obtain ⟨xs, hx, _⟩ := rh p _ e
        exact key h (.base (.lst hx))
      | dic ks ds =>
        obtain ⟨xs, hx, _⟩ := rh p _ e
        exact key h (.base (.dK hx))
      | ins _ _ => cases h
      | exo _ => cases h
      | dct _ _ => cases h
def isiO (c : String) : OL := fun ds G Q => match ds with
  | [x, .ty n] => n = c ∧ ∃ a, tyD G x = some a ∧ Q (.bl (instB a c)) G
  | _ => False
theorem ci_isi {T : Tb} {K : PySem.W.Frag} (hK : K = T.K) {c : String} (hc : c ∈ clsNames) : CallI T (rIsi K) (isiO c) := by
  intro G H ds vs Q Qv rh r q k
  subst hK
  rcases r with _ | ⟨rx, _ | ⟨rc, _ | ⟨_, _⟩⟩⟩
  · exact False.elim q
  · exact False.elim q
  · cases rc with
    | ty n =>
      obtain ⟨e, a, ha, q⟩ := q
      subst e
      exact ⟨_, _, _, _, _, rfl, .ty _, tyX_of rh rx ha, kit_ty (kit_all a (tyD_mem ha) _ hc), k _ _ G H (.bl _) rh (Keep.refl _ _) q⟩
    | _ => exact False.elim q
  · exact False.elim (by rename_i a b; cases rc <;> exact q)
/-- all, any of a list of bools -/
def blsD : List D → Option (List Bool)
  | [] => some []
  | .bl b :: r => (blsD r).map (b :: ·)
  | _ :: _ => none
theorem bls_rv {T : Tb} {G : GH} {H : Hp} : ∀ {ds : List D} {vs : List V} {bs : List Bool}, RVs T G H ds vs → blsD ds = some bs → vs = bs.map V.bl
  | [], _, bs, .nil, h => by cases h; rfl
  | d :: ds, _, bs, .cons a b, h => by
    cases d with
    | bl x =>
      unfold blsD at h
      cases e : blsD ds with
      | none => rw [e] at h; cases h
      | some cs =>
        rw [e] at h
        cases h
        cases a
        rw [bls_rv b e]
        rfl
    | _ => cases h
def allO (f : List Bool → Bool) : OL := fun ds G Q => match ds with
  | [x] => ∃ xs, topD G x = .lst xs ∧ ∃ bs, blsD xs = some bs ∧ Q (.bl (f bs)) G
  | _ => False
theorem topD_lst {T : Tb} {G : GH} {H : Hp} (rh : RH T G H) {x : D} {v : V} {xs : List D} (r : RV T G H x v) (h : topD G x = .lst xs) : ∃ a vs, v = .ref a ∧ H a = some (.lst vs) ∧ RVs T G H xs vs := by
  cases r with
  | lst g hx _ r => cases h; exact ⟨_, _, rfl, hx, r⟩
  | ref a =>
    rcases topD_cases G a with e | ⟨ds, g, e⟩
    · rw [e] at h; cases h
    · rw [e] at h; cases h
      obtain ⟨vs, hx, _, r⟩ := rh a _ g
      exact ⟨_, _, rfl, hx, r⟩
  | _ => cases h
theorem ci_all {T : Tb} {K : PySem.W.Frag} (hK : K = T.K) : CallI T (rAll K) (allO fun bs => bs.all id) := by
  intro G H ds vs Q Qv rh r q k
  subst hK
  rcases r with _ | ⟨rx, _ | ⟨_, _⟩⟩
  · exact False.elim q
  · obtain ⟨xs, e, bs, hb, q⟩ := q
    obtain ⟨a, us, rfl, hx, r⟩ := topD_lst rh rx e
    have := bls_rv r hb
    subst this
    exact ⟨a, bs, rfl, SqL.of hx, k _ _ G H (.bl _) rh (Keep.refl _ _) q⟩
  · exact False.elim q
theorem ci_any {T : Tb} {K : PySem.W.Frag} (hK : K = T.K) : CallI T (rAny K) (allO fun bs => bs.any id) := by
  intro G H ds vs Q Qv rh r q k
  subst hK
  rcases r with _ | ⟨rx, _ | ⟨_, _⟩⟩
  · exact False.elim q
  · obtain ⟨xs, e, bs, hb, q⟩ := q
    obtain ⟨a, us, rfl, hx, r⟩ := topD_lst rh rx e
    have := bls_rv r hb
    subst this
    exact ⟨a, bs, rfl, SqL.of hx, k _ _ G H (.bl _) rh (Keep.refl _ _) q⟩
  · exact False.elim q
def absO : OL := fun ds G Q => match ds with
  | [.int i] => Q (.int (if i < 0 then -i else i)) G
  | _ => False
theorem ci_abs {T : Tb} : CallI T (fun xs H Q => ∃ i, xs = [.int i] ∧ Q (.int (if i < 0 then -i else i)) H) absO := by
  intro G H ds vs Q Qv rh r q k
  rcases r with _ | ⟨rx, _ | ⟨_, _⟩⟩
  · exact False.elim q
  · cases rx with
    | int i => exact ⟨i, rfl, k _ _ G H (.int _) rh (Keep.refl _ _) q⟩
    | _ => exact False.elim q
  · exact False.elim (by rename_i a b; cases rx <;> exact q)
end DL
set_option Elab.async false
set_option linter.all false
set_option maxRecDepth 100000
set_option maxHeartbeats 4000000
namespace DL
open PySem PySem.Spec PyProof.Rows L2

/-! ### statements -/
def ExOkS (T : Tb) (W : WX) (G : GH) (H : Hp) (ex : Nat → List D → Ev → GH → Prop) : Prop :=
  ∀ c ds env' G' cl dx σ' H', ex c ds env' G' → RX T G' H' c ds cl dx → RS T G' H' env' σ' → RH T G' H' → Keep G H G' H' → W cl dx σ' H'
theorem ExOkS.keep {T : Tb} {W : WX} {G G1 : GH} {H H1 : Hp} {ex : Nat → List D → Ev → GH → Prop} (k : Keep G H G1 H1) (h : ExOkS T W G H ex) : ExOkS T W G1 H1 ex :=
  fun c ds env' G' cl dx σ' H' a b d e f => h c ds env' G' cl dx σ' H' a b d e (k.trans f)
theorem ExOkS.at {T : Tb} {W : WX} {G : GH} {H : Hp} {ex : Nat → List D → Ev → GH → Prop} {env : Ev} {σ : List (Option V)} (h : ExOkS T W G H ex) (rs : RS T G H env σ) : ExOk T W G H σ (fun c ds G' => ex c ds env G') :=
  fun c ds G' cl dx H' a b d e => h c ds env G' cl dx σ H' a b (rs.keep e) d e
/-- the ends of data, as ends of the layer below -/
structure EndsOk (T : Tb) (G : GH) (H : Hp) (De : DEnds) (Dv : Ends) : Prop where
  nx : ∀ env' G' σ' H', RS T G' H' env' σ' → RH T G' H' → Keep G H G' H' → De.nx env' G' → Dv.nx σ' H'
  rt : ∀ d v G' H', RV T G' H' d v → RH T G' H' → Keep G H G' H' → De.rt d G' → Dv.rt v H'
  bk : ∀ env' G' σ' H', RS T G' H' env' σ' → RH T G' H' → Keep G H G' H' → De.bk env' G' → Dv.bk σ' H'
  ct : ∀ env' G' σ' H', RS T G' H' env' σ' → RH T G' H' → Keep G H G' H' → De.ct env' G' → Dv.ct σ' H'
theorem EndsOk.keep {T : Tb} {G G1 : GH} {H H1 : Hp} {De : DEnds} {Dv : Ends} (k : Keep G H G1 H1) (h : EndsOk T G H De Dv) : EndsOk T G1 H1 De Dv :=
  ⟨fun a b c d e f g i => h.nx a b c d e f (k.trans g) i, fun a b c d e f g i => h.rt a b c d e f (k.trans g) i, fun a b c d e f g i => h.bk a b c d e f (k.trans g) i, fun a b c d e f g i => h.ct a b c d e f (k.trans g) i⟩
def liftS (T : Tb) (W : WX) (t : TSd) : TS := fun Dv σ H => ∃ env G De, RS T G H env σ ∧ RH T G H ∧ ExOkS T W G H De.ex ∧ EndsOk T G H De Dv ∧ t De env G
structure QS (T : Tb) (X : Cx) (W : WX) (st : Stmt) (t : TSd) : Prop where
  ps : PS X st (liftS T W t)
structure QSs (T : Tb) (X : Cx) (W : WX) (st : List Stmt) (t : TSd) : Prop where
  pss : PSs X st (liftS T W t)
section
variable {T : Tb} {X : Cx} {W : WX} {st : Stmt} {sts rest : List Stmt} {e a b c : Expr} {es : List Expr} {te ta tb : TEd} {t u : TSd} {pos : Pos}
theorem PS.imp {t0 t1 : TS} (h : PS X st t0) (hi : ∀ D σ H, t1 D σ H → t0 D σ H) : PS X st t1 := ⟨fun pins s σ H D I q => h.run pins s σ H D I (hi D σ H q)⟩
theorem PSs.imp {t0 t1 : TS} (h : PSs X sts t0) (hi : ∀ D σ H, t1 D σ H → t0 D σ H) : PSs X sts t1 := ⟨fun pins s σ H D I q => h.run pins s σ H D I (hi D σ H q)⟩
theorem QS.of {t0 : TS} (h : PS X st t0) (hi : ∀ env G De Dv σ H, RS T G H env σ → RH T G H → ExOkS T W G H De.ex → EndsOk T G H De Dv → t De env G → t0 Dv σ H) : QS T X W st t :=
  ⟨PS.imp h fun D σ H ⟨env, G, De, rs, rh, ex, en, q⟩ => hi env G De D σ H rs rh ex en q⟩
theorem QSs.of {t0 : TS} (h : PSs X sts t0) (hi : ∀ env G De Dv σ H, RS T G H env σ → RH T G H → ExOkS T W G H De.ex → EndsOk T G H De Dv → t De env G → t0 Dv σ H) : QSs T X W sts t :=
  ⟨PSs.imp h fun D σ H ⟨env, G, De, rs, rh, ex, en, q⟩ => hi env G De D σ H rs rh ex en q⟩
def wNext : TSd := fun De env G => De.nx env G
def wSeq (t u : TSd) : TSd := fun De env G => t { De with nx := fun env' G' => u De env' G' } env G
theorem qs_nil : QSs T X W [] wNext := QSs.of pss_nil fun env G De Dv σ H rs rh ex en q => en.nx _ _ _ _ rs rh (Keep.refl _ _) q
theorem qs_cons (h1 : QS T X W st t) (h2 : QSs T X W rest u) : QSs T X W (st :: rest) (wSeq t u) :=
  QSs.of (pss_cons h1.ps h2.pss) fun env G De Dv σ H rs rh ex en q => ⟨env, G, { De with nx := fun env' G' => u De env' G' }, rs, rh, ex,
    ⟨fun env' G' σ' H' r1 r2 k q' => ⟨env', G', De, r1, r2, ex.keep k, en.keep k, q'⟩, en.rt, en.bk, en.ct⟩, q⟩
theorem qs_one (h1 : QS T X W st t) : QSs T X W [st] t := ⟨pss_one h1.ps⟩
def wBreak : TSd := fun De env G => De.bk env G
def wCont : TSd := fun De env G => De.ct env G
theorem q_pass : QS T X W (.Pass pos) wNext := QS.of ps_pass fun env G De Dv σ H rs rh ex en q => en.nx _ _ _ _ rs rh (Keep.refl _ _) q
theorem q_break : QS T X W (.Break pos) wBreak := QS.of ps_break fun env G De Dv σ H rs rh ex en q => en.bk _ _ _ _ rs rh (Keep.refl _ _) q
theorem q_continue : QS T X W (.Continue pos) wCont := QS.of ps_continue fun env G De Dv σ H rs rh ex en q => en.ct _ _ _ _ rs rh (Keep.refl _ _) q
theorem q_doc {x j pos'} : QS T X W (.Expr (.Constant (.str x) j pos) pos') wNext := QS.of ps_doc fun env G De Dv σ H rs rh ex en q => en.nx _ _ _ _ rs rh (Keep.refl _ _) q
def wExpr (te : TEd) : TSd := fun De env G => te env G (fun _ G1 => De.nx env G1) (fun c ds G' => De.ex c ds env G')
theorem q_expr (he : QE T X W e te) (hs : swapsWith e none pos.line X.env = pure false := by rfl) : QS T X W (.Expr e pos) (wExpr te) :=
  QS.of (ps_expr he.pe hs) fun env G De Dv σ H rs rh ex en q => intoE rs rh (ex.at rs) q fun d v G1 H1 rd rh1 k1 q1 => en.nx _ _ _ _ (rs.keep k1) rh1 k1 q1
def wRet (te : TEd) : TSd := fun De env G => te env G De.rt (fun c ds G' => De.ex c ds env G')
theorem q_ret (he : QE T X W e te) : QS T X W (.Return (some e) pos) (wRet te) :=
  QS.of (ps_ret he.pe) fun env G De Dv σ H rs rh ex en q => intoE rs rh (ex.at rs) q fun d v G1 H1 rd rh1 k1 q1 => en.rt _ _ _ _ rd rh1 k1 q1
def wRetN : TSd := fun De _ G => De.rt .non G
theorem q_retN : QS T X W (.Return none pos) wRetN := QS.of ps_retN fun env G De Dv σ H rs rh ex en q => en.rt _ _ _ _ .non rh (Keep.refl _ _) q
def wIfS (tc : TTd) (t u : TSd) : TSd := fun De env G => tc env G (fun b G1 => if b = true then t De env G1 else u De env G1) (fun c ds G' => De.ex c ds env G')
theorem q_if {c : Expr} {a b : List Stmt} {tc : TTd} (hc : QT T X W c tc) (ha : QSs T X W a t) (hb : QSs T X W b u) : QS T X W (.If c a b pos) (wIfS tc t u) :=
  QS.of (ps_if hc.pt ha.pss hb.pss) fun env G De Dv σ H rs rh ex en q => intoT rs rh (ex.at rs) q fun b G1 H1 rh1 k1 q1 => by
    cases b with
    | true =>
      rw [if_pos rfl] at q1 ⊢
      exact ⟨env, G1, De, rs.keep k1, rh1, ex.keep k1, en.keep k1, q1⟩
    | false =>
      rw [if_neg Bool.false_ne_true] at q1 ⊢
      exact ⟨env, G1, De, rs.keep k1, rh1, ex.keep k1, en.keep k1, q1⟩
/-! ### targets -/
abbrev TGd := D → Ev → GH → (Ev → GH → Prop) → DX → Prop
def liftG (T : Tb) (W : WX) (t : TGd) : TG := fun v σ H Qg => ∃ d env G Q Ex, RV T G H d v ∧ RS T G H env σ ∧ RH T G H ∧ ExOk T W G H σ Ex ∧ t d env G Q Ex ∧ ∀ env' G' σ' H', RS T G' H' env' σ' → RH T G' H' → Keep G H G' H' → Q env' G' → Qg σ' H'
structure QG (T : Tb) (X : Cx) (W : WX) (tg : Expr) (t : TGd) : Prop where
  pg : PG X tg (liftG T W t)
theorem PG.imp {tg : Expr} {t0 t1 : TG} (h : PG X tg t0) (hi : ∀ v σ H Q, t1 v σ H Q → t0 v σ H Q) : PG X tg t1 := ⟨fun pins s σ H v u Q I r q => h.run pins s σ H v u Q I r (hi v σ H Q q)⟩
def gdName (i : Nat) : TGd := fun d env G Q _ => Q (env.set i (some d)) G
theorem qg_name {i : Nat} {x : Str} (hN : X.N.Nodup) (hi : X.N[i]? = some x) (hx : Loc X.env.scope x) (hf : X.fn x = true ∨ X.env.scope.names.lookup x = some .local := by first | exact .inl rfl | exact .inr rfl | assumption) : QG T X W (.Name x pos) (gdName i) :=
  ⟨PG.imp (pg_name hN hi hx hf) fun v σ H Qg ⟨d, env, G, Q, Ex, rd, rs, rh, ex, q, k⟩ => k _ G _ H (rs.set i rd) rh (Keep.refl _ _) q⟩
abbrev TGsd := List D → Ev → GH → (Ev → GH → Prop) → DX → Prop
def liftGs (T : Tb) (W : WX) (t : TGsd) : TGs := fun vs σ H Qg => ∃ ds env G Q Ex, RVs T G H ds vs ∧ RS T G H env σ ∧ RH T G H ∧ ExOk T W G H σ Ex ∧ t ds env G Q Ex ∧ ∀ env' G' σ' H', RS T G' H' env' σ' → RH T G' H' → Keep G H G' H' → Q env' G' → Qg σ' H'
structure QGs (T : Tb) (X : Cx) (W : WX) (tgs : List Expr) (t : TGsd) : Prop where
  pgs : PGs X tgs (liftGs T W t)
theorem PGs.imp {tgs : List Expr} {t0 t1 : TGs} (h : PGs X tgs t0) (hi : ∀ v σ H Q, t1 v σ H Q → t0 v σ H Q) : PGs X tgs t1 := ⟨fun pins s σ H v u Q I r q => h.run pins s σ H v u Q I r (hi v σ H Q q)⟩
def gdNil : TGsd := fun ds env G Q _ => ds = [] ∧ Q env G
/-- the first target is a name -/
def gdConsN (i : Nat) (u : TGsd) : TGsd := fun ds env G Q Ex => ∃ d r, ds = d :: r ∧ u r (env.set i (some d)) G Q Ex
theorem qgs_nil : QGs T X W [] gdNil := ⟨PGs.imp pgs_nil fun vs σ H Qg ⟨ds, env, G, Q, Ex, rd, rs, rh, ex, ⟨e, q⟩, k⟩ => by
  subst e
  cases rd
  exact ⟨rfl, k env G σ H rs rh (Keep.refl _ _) q⟩⟩
theorem qgs_name {i : Nat} {x : Str} {p : Pos} {u : TGsd} (hN : X.N.Nodup) (hi : X.N[i]? = some x) (hx : Loc X.env.scope x) (h2 : QGs T X (fun _ _ _ _ => False) es u) (hs : (assignEach (.Name x p :: es) X.env).map (·.2) = assign (.Name x p) X.env :: (assignEach es X.env).map (·.2) := by rfl)
    (hf : X.fn x = true ∨ X.env.scope.names.lookup x = some .local := by first | exact .inl rfl | exact .inr rfl | assumption) : QGs T X W (.Name x p :: es) (fun ds env G Q _ => gdConsN i u ds env G Q (fun _ _ _ => False)) :=
  ⟨PGs.imp (pgs_cons (pg_name hN hi hx hf) h2.pgs hs) fun vs σ H Qg ⟨ds, env, G, Q, Ex, rd, rs, rh, ex, ⟨d, r, e, q⟩, k⟩ => by
    subst e
    cases rd with
    | cons r1 r2 => exact ⟨_, _, rfl, r, env.set i (some d), G, Q, fun _ _ _ => False, r2, rs.set i r1, rh, fun _ _ _ _ _ _ z => z.elim, q, k⟩⟩
def gdTup (n : Nat) (u : TGsd) : TGd := fun d env G Q Ex => ∃ ds, d = .tup ds ∧ ds.length = n ∧ u ds env G Q Ex
theorem qg_tup {k n : Nat} {u : TGsd} (hK : X.K = T.K) (hc : X.calm = true) (h : QGs T X W es u) (hn : (assignEach es X.env).length = n := by rfl) (hst : (assignEach es X.env).findIdx? (·.1) = none := by rfl) : QG T X W (.Tuple es k pos) (gdTup n u) :=
  ⟨PG.imp (pg_tup hc h.pgs hn hst) fun v σ H Qg ⟨d, env, G, Q, Ex, rd, rs, rh, ex, ⟨ds, e, l, q⟩, kk⟩ => by
    subst e
    cases rd with
    | tup hx _ r =>
      rw [hK]
      exact ⟨_, _, rfl, hx.sq, by rw [← r.length]; exact l, ds, env, G, Q, Ex, r, rs, rh, ex, q, kk⟩⟩
def wAsg (te : TEd) (g : TGd) : TSd := fun De env G => te env G (fun d G1 => g d env G1 De.nx (fun c ds G' => De.ex c ds env G')) (fun c ds G' => De.ex c ds env G')
theorem q_asg {tg e : Expr} {te : TEd} {g : TGd} (he : QE T X W e te) (hg : QG T X W tg g) (hs : swapsWithSole [tg] e pos.line X.env = pure false := by rfl) (hw : swappedStores [tg] e X.env = pure none := by rfl)
    (h1 : (assignEach [tg] X.env).map (·.2) = [assign tg X.env] := by rfl) : QS T X W (.Assign [tg] e pos) (wAsg te g) :=
  QS.of (ps_asg he.pe hg.pg hs hw h1) fun env G De Dv σ H rs rh ex en q => intoE rs rh (ex.at rs) q fun d v G1 H1 rd rh1 k1 q1 =>
    ⟨d, env, G1, _, _, rd, rs.keep k1, rh1, (ex.at rs).keep k1, q1, fun env' G' σ' H' a b c d => en.nx _ _ _ _ a b (k1.trans c) d⟩
def wSet (i : Nat) (te : TEd) : TSd := fun De env G => te env G (fun d G1 => De.nx (env.set i (some d)) G1) (fun c ds G' => De.ex c ds env G')
theorem q_set {i : Nat} {x : Str} {pos' : Pos} (hN : X.N.Nodup) (hi : X.N[i]? = some x) (hx : Loc X.env.scope x) (he : QE T X W e te) (hs : swapsWith e (some (.Name x pos')) pos.line X.env = pure false := by rfl) (hf : X.fn x = true ∨ X.env.scope.names.lookup x = some .local := by first | exact .inl rfl | exact .inr rfl | assumption) :
    QS T X W (.Assign [.Name x pos'] e pos) (wSet i te) :=
  QS.of (ps_set hN hi hx he.pe hs hf) fun env G De Dv σ H rs rh ex en q => intoE rs rh (ex.at rs) q fun d v G1 H1 rd rh1 k1 q1 => en.nx _ _ _ _ ((rs.keep k1).set i rd) rh1 k1 q1
/-- a, b = x, y with plain local names -/
def wPar (i j : Nat) (ta : TAd) : TSd := fun De env G => ta env G (fun ds G1 => ∃ d e, ds = [d, e] ∧ De.nx ((env.set i (some d)).set j (some e)) G1) (fun c ds G' => De.ex c ds env G')
theorem q_par {i j : Nat} {x y : Str} {u : TAd} {px py pt : Pos} {kt k2 pt2} (hc : X.calm = true) (hN : X.N.Nodup) (hi : X.N[i]? = some x) (hj : X.N[j]? = some y) (hij : i ≠ j)
    (hx : X.env.scope.names.lookup x = some .local) (hy : X.env.scope.names.lookup y = some .local) (ha : QA T X W [a, b] u)
    (hw : swappedStores [.Tuple [.Name x px, .Name y py] kt pt] (.Tuple [a, b] k2 pt2) X.env = pure (some [x, y]))
    (hs : swapsWithSole [.Tuple [.Name x px, .Name y py] kt pt] (.Tuple [a, b] k2 pt2) pos.line X.env = pure false := by rfl) :
    QS T X W (.Assign [.Tuple [.Name x px, .Name y py] kt pt] (.Tuple [a, b] k2 pt2) pos) (wPar i j u) :=
  QS.of (ps_par hc hN hi hj hij hx hy ha.pa hw hs) fun env G De Dv σ H rs rh ex en q => intoA rs rh (ex.at rs) q fun ds vs G1 H1 rd rh1 k1 ⟨d, e, eq, q1⟩ => by
    subst eq
    cases rd with
    | cons r1 r2 =>
      cases r2 with
      | cons r2 r3 =>
        cases r3
        exact ⟨_, _, rfl, en.nx _ _ _ _ (((rs.keep k1).set i r1).set j r2) rh1 k1 q1⟩
/-! ### o[i] = v, o[i] op= v, name op= v -/
def setO (o i v : D) (G : GH) (Q : GH → Prop) : Prop := ∃ a ds k j, o = .ref a ∧ i = .int k ∧ G a = some (.lst ds) ∧ ixN ds.length k = some j ∧ Q (gset G a (.lst (ds.set j v)))
theorem set_in {G : GH} {H : Hp} {o i v : D} {ov iv vv : V} (rh : RH T G H) (ro : RV T G H o ov) (ri : RV T G H i iv) (rv : RV T G H v vv) {Q : GH → Prop} {Qv : Hp → Prop} (h : setO o i v G Q)
    (k : ∀ G' H', RH T G' H' → Keep G H G' H' → Q G' → Qv H') : rSetL ov iv vv H Qv := by
  obtain ⟨p, ds, n, j, e1, e2, hg, hj, q⟩ := h
  subst e1 e2
  cases ro
  cases ri
  obtain ⟨xs, hx, l, r⟩ := rh p _ hg
  refine ⟨p, xs, n, j, rfl, rfl, hx, by rw [← r.length]; exact hj, k _ _ (rh.put (d := .lst (ds.set j v)) hg ⟨xs.set j vv, upd_same, by rw [List.length_set]; exact l, (r.set rv j).keep (Keep.put hg)⟩) (Keep.put hg) q⟩
def wSetI (te to ti : TEd) : TSd := fun De env G => te env G (fun d G1 => to env G1 (fun o G2 => ti env G2 (fun i G3 => setO o i d G3 (fun G4 => De.nx env G4)) (fun c ds G' => De.ex c ds env G')) (fun c ds G' => De.ex c ds env G')) (fun c ds G' => De.ex c ds env G')
theorem q_setI {o i : Expr} {to ti : TEd} {pos' : Pos} (he : QE T X W e te) (ho : QE T X W o to) (hi : QE T X W i ti)
    (ha : ∀ v, assign (.Subscript o i pos') X.env v = (do let ov ← holding [v] (eval o X.env); let iv ← holding [v, ov] (eval i X.env); standAt pos'; holding [v, ov, iv] (setItem ov iv v); release [v, ov, iv] []) := by intro _; rfl)
    (hs : swapsWithSole [.Subscript o i pos'] e pos.line X.env = pure false := by rfl) (hw : swappedStores [.Subscript o i pos'] e X.env = pure none := by rfl)
    (h1 : (assignEach [.Subscript o i pos'] X.env).map (·.2) = [assign (.Subscript o i pos') X.env] := by rfl) : QS T X W (.Assign [.Subscript o i pos'] e pos) (wSetI te to ti) :=
  QS.of (ps_asg he.pe (pg_sub ho.pe hi.pe set_list ha) hs hw h1) fun env G De Dv σ H rs rh ex en q => intoE rs rh (ex.at rs) q fun d v G1 H1 rd rh1 k1 q1 =>
    intoE (rs.keep k1) rh1 ((ex.at rs).keep k1) q1 fun o' ov G2 H2 ro rh2 k2 q2 => intoE ((rs.keep k1).keep k2) rh2 (((ex.at rs).keep k1).keep k2) q2 fun i' iv G3 H3 ri rh3 k3 q3 =>
      set_in rh3 (ro.keep k3) ri ((rd.keep k2).keep k3) q3 fun G4 H4 rh4 k4 q4 => en.nx _ _ _ _ (rs.keep (((k1.trans k2).trans k3).trans k4)) rh4 (((k1.trans k2).trans k3).trans k4) q4
/-- a list's item, by values -/
def rGetL (K : PySem.W.Frag) : V → V → Hp → VK → Prop := fun o i H Q => ∃ p xs k v, o = .ref p ∧ i = .int k ∧ 0 ≤ k ∧ SqL K H p xs ∧ xs[k.toNat]? = some v ∧ Q v H
theorem get_list : PGet X (rGetL X.K) := by
  intro pins s σ H o i ov iv Q I ro ri h
  obtain ⟨p, xs, k, v, rfl, rfl, h0, hq, hx, q⟩ := h
  cases ro
  obtain ⟨t, rfl⟩ := ri
  obtain ⟨its, r, pl, hz⟩ := I.list hq
  obtain ⟨u, hu, ru⟩ := r.get hx
  have hl := r.length
  have h63 := line63
  have hlt : k.toNat < xs.length := (List.getElem?_eq_some_iff.mp hx).1
  exact wpAny_getItem_list pl.isList h0 (by omega) (by simpa using hu) ⟨v, H, I, ru, q⟩
/-- the item that an augmented store reads -/
def augAt (o i : D) (G : GH) (K : D → Prop) : Prop := ∃ a ds k d, o = .ref a ∧ i = .int k ∧ 0 ≤ k ∧ G a = some (.lst ds) ∧ ds[k.toNat]? = some d ∧ K d
def wAugI (op : O2) (to ti te : TEd) : TSd := fun De env G => to env G (fun o G1 => ti env G1 (fun i G2 => augAt o i G2 fun d =>
  te env G2 (fun y G3 => op d y G3 (fun z G4 => setO o i z G4 (fun G5 => De.nx env G5))) (fun c ds G' => De.ex c ds env G')) (fun c ds G' => De.ex c ds env G')) (fun c ds G' => De.ex c ds env G')
theorem q_augI {o i : Expr} {to ti : TEd} {tpos : Pos} {op : Operator} {ip : TIp} {o2 : O2} (hK : X.K = T.K) (ho : QE T X W o to) (hi : QE T X W i ti) (he : QE T X W e te) (hp : PIp X op ip) (oi : OpI T ip o2)
    (ha : ∀ ov iv new, augStore i ov iv new = (do holding [new, ov, iv] (setItem ov iv new); release [new, ov, iv] []; pure .next) := by intros; rfl) : QS T X W (.AugAssign (.Subscript o i tpos) op e pos) (wAugI o2 to ti te) :=
  QS.of (ps_augS ho.pe hi.pe get_list he.pe hp set_list ha) fun env G De Dv σ H rs rh ex en q => intoE rs rh (ex.at rs) q fun o' ov G1 H1 ro rh1 k1 q1 =>
    intoE (rs.keep k1) rh1 ((ex.at rs).keep k1) q1 fun i' iv G2 H2 ri rh2 k2 q2 => by
      obtain ⟨p, ds, n, d, e1, e2, h0, hg, hd, q2⟩ := q2
      subst e1 e2
      cases ro
      cases ri
      obtain ⟨xs, hx, _, r⟩ := rh2 p _ hg
      obtain ⟨v, hv, rd⟩ := r.get hd
      refine ⟨p, xs, n, v, rfl, rfl, h0, SqL.of hx, hv, ?_⟩
      have k12 := k1.trans k2
      refine intoE (rs.keep k12) rh2 ((ex.at rs).keep k12) q2 fun y yv G3 H3 ry rh3 k3 q3 => ?_
      refine oi G3 H3 d y v yv _ _ rh3 (rd.keep k3) ry q3 fun z zv G4 H4 rz rh4 k4 q4 => ?_
      exact set_in rh4 (.ref p) (.int n) rz q4 fun G5 H5 rh5 k5 q5 => en.nx _ _ _ _ (rs.keep (((k12.trans k3).trans k4).trans k5)) rh5 (((k12.trans k3).trans k4).trans k5) q5
def wAug (i : Nat) (op : O2) (te : TEd) : TSd := fun De env G => ∃ x, lk env i = some x ∧ te env G (fun y G1 => op x y G1 (fun z G2 => De.nx (env.set i (some z)) G2)) (fun c ds G' => De.ex c ds env G')
theorem q_aug {i : Nat} {x : Str} {op : Operator} {ip : TIp} {o2 : O2} {pos' : Pos} (hN : X.N.Nodup) (hi : X.N[i]? = some x) (hx : Loc X.env.scope x) (he : QE T X W e te) (hp : PIp X op ip) (oi : OpI T ip o2) (hf : X.fn x = true ∨ X.env.scope.names.lookup x = some .local := by first | exact .inl rfl | exact .inr rfl | assumption) :
    QS T X W (.AugAssign (.Name x pos') op e pos) (wAug i o2 te) :=
  QS.of (ps_aug hN hi hx he.pe hp hf) fun env G De Dv σ H rs rh ex en ⟨d, e, q⟩ => by
    obtain ⟨v, h1, h2⟩ := rs.2 i d (lk_eq _ _ _ e)
    refine ⟨v, h1, intoE rs rh (ex.at rs) q fun y yv G1 H1 ry rh1 k1 q1 => ?_⟩
    exact oi G1 H1 d y v yv _ _ rh1 (h2.keep k1) ry q1 fun z zv G2 H2 rz rh2 k2 q2 => en.nx _ _ _ _ ((rs.keep (k1.trans k2)).set i rz) rh2 (k1.trans k2) q2
theorem oi_ipI {f : Int → Int → Int} : OpI T (ipI f) (int0 fun i j => .int (f i j)) := by
  intro G H x y v u Q Qv rh rx ry q k
  cases rx with
  | int i =>
    cases ry with
    | int j => exact ⟨i, j, rfl, rfl, k _ _ G H (.int _) rh (Keep.refl _ _) q⟩
    | _ => exact False.elim q
  | _ => cases ry <;> exact False.elim q
/-! ### loops -/
def wWhile (tc : TTd) (t : TSd) : TSd := fun De env G => ∃ J : Nat → Ev → GH → Prop, (∃ m, J m env G) ∧ ∀ m env G, J m env G →
  tc env G (fun b G1 => if b = true then t { De with nx := fun env' G' => ∃ m', m' < m ∧ J m' env' G', ct := fun env' G' => ∃ m', m' < m ∧ J m' env' G', bk := De.nx } env G1 else De.nx env G1) (fun c ds G' => De.ex c ds env G')
theorem q_while {c : Expr} {body : List Stmt} {tc : TTd} (hp : PassesOwn (model X.prog X.w) X.A X.env X.xe) (hc : QT T X W c tc) (hb : QSs T X W body t) : QS T X W (.While c body [] pos) (wWhile tc t) :=
  QS.of (ps_while hp hc.pt hb.pss) fun env0 G0 De Dv σ0 H0 rs0 rh0 ex en ⟨J, ⟨m0, j0⟩, turn⟩ => by
    refine ⟨fun m σ H => ∃ env G, RS T G H env σ ∧ RH T G H ∧ Keep G0 H0 G H ∧ J m env G, ⟨m0, env0, G0, rs0, rh0, Keep.refl _ _, j0⟩, ?_⟩
    rintro m σ H ⟨env, G, rs, rh, k, j⟩
    refine intoT rs rh ((ex.keep k).at rs) (turn m env G j) fun b G1 H1 rh1 k1 q1 => ?_
    cases b with
    | false =>
      rw [if_neg Bool.false_ne_true] at q1 ⊢
      exact en.nx _ _ _ _ (rs.keep k1) rh1 (k.trans k1) q1
    | true =>
      rw [if_pos rfl] at q1 ⊢
      refine ⟨fun σ' H' => ∃ m', m' < m ∧ ∃ env G, RS T G H' env σ' ∧ RH T G H' ∧ Keep G0 H0 G H' ∧ J m' env G, fun σ' H' z => z, env, G1, { De with nx := fun env' G' => ∃ m', m' < m ∧ J m' env' G', ct := fun env' G' => ∃ m', m' < m ∧ J m' env' G', bk := De.nx }, rs.keep k1, rh1, ex.keep (k.trans k1), ?_, q1⟩
      exact ⟨fun env' G' σ' H' a b c ⟨m', l, d⟩ => ⟨m', l, env', G', a, b, (k.trans k1).trans c, d⟩, fun d v G' H' a b c e => en.rt _ _ _ _ a b ((k.trans k1).trans c) e,
        fun env' G' σ' H' a b c d => en.nx _ _ _ _ a b ((k.trans k1).trans c) d, fun env' G' σ' H' a b c ⟨m', l, d⟩ => ⟨m', l, env', G', a, b, (k.trans k1).trans c, d⟩⟩
end
end DL
set_option Elab.async false
set_option linter.all false
set_option maxRecDepth 100000
set_option maxHeartbeats 4000000
namespace DL
open PySem PySem.Spec PyProof.Rows L2

/-! ### what is walked -/
/-- the source J yields ds, as long as stay holds -/
structure SrcOk (T : Tb) (G0 : GH) (H0 : Hp) (J : It) (ds : List D) (stay : GH → Prop) : Prop where
  len : ds.length ≤ sizeLine
  go : ∀ G H, Keep G0 H0 G H → RH T G H → stay G → ∀ i, i < ds.length → J.go i H
  yld : ∀ G H, Keep G0 H0 G H → RH T G H → stay G → ∀ i d x H', ds[i]? = some d → J.yld i H x H' → RV T G H' d x ∧ RH T G H' ∧ Keep G H G H'
  stop : ∀ G H, Keep G0 H0 G H → RH T G H → stay G → ∀ i, ds.length ≤ i → J.stop i H
abbrev TId := Ev → GH → (List D → (GH → Prop) → GH → Prop) → DX → Prop
def liftI (T : Tb) (W : WX) (t : TId) : TI := fun σ H R => ∃ env G Q Ex, RS T G H env σ ∧ RH T G H ∧ ExOk T W G H σ Ex ∧ t env G Q Ex ∧
  ∀ J ds stay G' H', RH T G' H' → Keep G H G' H' → SrcOk T G' H' J ds stay → Q ds stay G' → R J H'
structure QI (T : Tb) (X : Cx) (W : WX) (tg iter : Expr) (t : TId) : Prop where
  pi : PI X tg iter (liftI T W t)
theorem set_none_none (σ : List (Option V)) (i j : Nat) : (σ.set i none).set j none = (σ.set j none).set i none := by
  by_cases h : i = j
  · rw [h]
  · exact List.set_comm _ _ h
theorem wipe_set (σ : List (Option V)) (i : Nat) : ∀ vs : List Nat, wipe (σ.set i none) vs = (wipe σ vs).set i none
  | [] => rfl
  | v :: vs => by
    show (wipe (σ.set i none) vs).set v none = ((wipe σ vs).set v none).set i none
    rw [wipe_set σ i vs, set_none_none]
theorem wipe_wipe (σ : List (Option V)) : ∀ vs : List Nat, wipe (wipe σ vs) vs = wipe σ vs
  | [] => rfl
  | v :: vs => by
    show (wipe ((wipe σ vs).set v none) vs).set v none = (wipe σ vs).set v none
    rw [wipe_set, wipe_wipe σ vs, List.set_set]
theorem wipe_mem (σ : List (Option V)) (i : Nat) (x : Option V) : ∀ vs : List Nat, i ∈ vs → wipe (σ.set i x) vs = wipe σ vs
  | [], h => nomatch h
  | v :: vs, h => by
    show (wipe (σ.set i x) vs).set v none = (wipe σ vs).set v none
    by_cases hm : i ∈ vs
    · rw [wipe_mem σ i x vs hm]
    · have e : i = v := by
        rcases List.mem_cons.mp h with e | e
        · exact e
        · exact absurd e hm
      subst e
      exact wipe_last σ i x vs
where
  wipe_last (σ : List (Option V)) (i : Nat) (x : Option V) : ∀ vs : List Nat, (wipe (σ.set i x) vs).set i none = (wipe σ vs).set i none
    | [] => by show (σ.set i x).set i none = σ.set i none; rw [List.set_set]
    | v :: vs => by
      show ((wipe (σ.set i x) vs).set v none).set i none = ((wipe σ vs).set v none).set i none
      by_cases h : v = i
      · subst h
        rw [List.set_set, List.set_set]
        exact wipe_last σ v x vs
      · rw [List.set_comm _ _ h, wipe_last σ i x vs, List.set_comm _ _ (Ne.symm h)]
section
variable {T : Tb} {X : Cx} {W : WX} {tg e a b : Expr} {es : List Expr} {te ta tb : TEd} {pos p : Pos}
theorem PI.imp {iter : Expr} {t0 t1 : TI} (h : PI X tg iter t0) (hi : ∀ σ H R, t1 σ H R → t0 σ H R) : PI X tg iter t1 := ⟨fun pins s σ H R I q => h.run pins s σ H R I (hi σ H R q)⟩
def always : GH → Prop := fun _ => True
/-- over a list (also one that may change, which does not change meanwhile) -/
def itO (d : D) (G1 : GH) (Q : List D → (GH → Prop) → GH → Prop) : Prop := match d with
  | .lst ds => Q ds always G1
  | .frl ds => Q ds always G1
  | .ref a => ∃ ds, G1 a = some (.lst ds) ∧ Q ds (fun G => G a = some (.lst ds)) G1
  | _ => False
def wiLst (te : TEd) : TId := fun env G Q Ex => te env G (fun d G1 => itO d G1 Q) Ex
theorem src_list {K : PySem.W.Frag} {G0 : GH} {H0 : Hp} {a : Addr} {xs : List V} {ds : List D} {stay : GH → Prop} (hl : ds.length ≤ sizeLine)
    (h : ∀ G H, Keep G0 H0 G H → RH T G H → stay G → ∃ xs, SqL K H a xs ∧ RVs T G H ds xs) : SrcOk T G0 H0 (Itl K a) ds stay := by
  refine ⟨hl, fun G H k rh st i hi => ?_, fun G H k rh st i d x H' hd hy => ?_, fun G H k rh st i hi => ?_⟩
  · obtain ⟨xs, h1, r⟩ := h G H k rh st
    obtain ⟨v, hv, _⟩ := r.get (i := i) (d := ds[i]) (List.getElem?_eq_getElem hi)
    exact ⟨xs, v, h1, hv⟩
  · obtain ⟨xs, h1, r⟩ := h G H k rh st
    obtain ⟨v, hv, rv⟩ := r.get hd
    obtain ⟨e, hy⟩ := hy
    subst e
    have := hy xs h1
    rw [hv] at this
    cases this
    exact ⟨rv, rh, Keep.refl _ _⟩
  · obtain ⟨xs, h1, r⟩ := h G H k rh st
    exact ⟨xs, h1, by rw [← r.length]; exact hi⟩
theorem src_tup {K : PySem.W.Frag} {G0 : GH} {H0 : Hp} {a : Addr} {xs : List V} {ds : List D} {stay : GH → Prop} (hl : ds.length ≤ sizeLine)
    (h : ∀ G H, Keep G0 H0 G H → RH T G H → stay G → ∃ xs, SqT K H a xs ∧ RVs T G H ds xs) : SrcOk T G0 H0 (Itt K a) ds stay := by
  refine ⟨hl, fun G H k rh st i hi => ?_, fun G H k rh st i d x H' hd hy => ?_, fun G H k rh st i hi => ?_⟩
  · obtain ⟨xs, h1, r⟩ := h G H k rh st
    obtain ⟨v, hv, _⟩ := r.get (i := i) (d := ds[i]) (List.getElem?_eq_getElem hi)
    exact ⟨xs, v, h1, hv⟩
  · obtain ⟨xs, h1, r⟩ := h G H k rh st
    obtain ⟨v, hv, rv⟩ := r.get hd
    obtain ⟨e, hy⟩ := hy
    subst e
    have := hy xs h1
    rw [hv] at this
    cases this
    exact ⟨rv, rh, Keep.refl _ _⟩
  · obtain ⟨xs, h1, r⟩ := h G H k rh st
    exact ⟨xs, h1, by rw [← r.length]; exact hi⟩
theorem qi_lst (he : QE T X W e te) (hK : X.K = T.K) : QI T X W tg e (wiLst te) :=
  ⟨PI.imp (pi_list he.pe) fun σ H R ⟨env, G, Q, Ex, rs, rh, ex, q, k⟩ => intoE rs rh ex q fun d v G1 H1 rd rh1 k1 q1 => by
    rw [hK]
    cases rd with
    | lst g hx l r => exact ⟨_, rfl, ⟨_, SqL.of hx⟩, k _ _ always _ _ rh1 k1 (src_list (xs := []) l fun G H kk _ _ => ⟨_, SqL.of (kk _ _ g hx).1, r.keep kk⟩) q1⟩
    | frl hx l r => exact ⟨_, rfl, ⟨_, hx.sq⟩, k _ _ always _ _ rh1 k1 (src_list (xs := []) l fun G H kk _ _ => ⟨_, (kk.fzL hx).sq, r.keep kk⟩) q1⟩
    | ref a =>
      obtain ⟨ds, g, q1⟩ := q1
      obtain ⟨xs, hx, l, r⟩ := rh1 a _ g
      exact ⟨_, rfl, ⟨_, SqL.of hx⟩, k _ _ (fun G => G a = some (.lst ds)) _ _ rh1 k1 (src_list (xs := []) l fun G H kk rhh st => let ⟨ys, hy, _, r'⟩ := rhh a _ st; ⟨ys, SqL.of hy, r'⟩) q1⟩
    | _ => exact False.elim q1⟩
def wiTup (te : TEd) : TId := fun env G Q Ex => te env G (fun d G1 => ∃ ds, d = .tup ds ∧ Q ds always G1) Ex
theorem qi_tup (he : QE T X W e te) (hK : X.K = T.K) : QI T X W tg e (wiTup te) :=
  ⟨PI.imp (pi_tup he.pe) fun σ H R ⟨env, G, Q, Ex, rs, rh, ex, q, k⟩ => intoE rs rh ex q fun d v G1 H1 rd rh1 k1 ⟨ds, e, q1⟩ => by
    rw [hK]
    subst e
    cases rd with
    | tup hx l r => exact ⟨_, rfl, ⟨_, hx.sq⟩, k _ _ always _ _ rh1 k1 (src_tup (xs := []) l fun G H kk _ _ => ⟨_, (kk.fzT hx).sq, r.keep kk⟩) q1⟩⟩
def rangeD (n : Nat) : List D := (List.range n).map fun (i : Nat) => D.int (i : Int)
theorem rangeD_get {n i : Nat} {d : D} (h : (rangeD n)[i]? = some d) : i < n ∧ d = .int i := by
  unfold rangeD at h
  rw [List.getElem?_map] at h
  by_cases hi : i < n
  · rw [List.getElem?_range hi] at h
    cases h
    exact ⟨hi, rfl⟩
  · rw [List.getElem?_eq_none (by simp; omega)] at h
    cases h
theorem rangeD_len (n : Nat) : (rangeD n).length = n := by unfold rangeD; simp
def wiRange (ta : TAd) : TId := fun env G Q Ex => ta env G (fun ds G1 => ∃ j : Int, ds = [.int j] ∧ -16777216 ≤ j ∧ j ≤ 16777216 ∧ Q (rangeD j.toNat) always G1) Ex
theorem qi_range {u : TAd} (hg : Gl X "range") (hm : X.mg "range" = none) (ha : QA T X W [a] u) (hs : starEach [a] X.env = [(false, eval a X.env)] := by rfl) : QI T X W tg (.Call (.Name "range" p) [a] [] pos) (wiRange u) :=
  ⟨PI.imp (pi_range1 hg hm ha.pa hs) fun σ H R ⟨env, G, Q, Ex, rs, rh, ex, q, k⟩ => intoA rs rh ex q fun ds vs G1 H1 rd rh1 k1 ⟨j, e, hj0, hj, q1⟩ => by
    subst e
    cases rd with
    | cons r1 r2 =>
      cases r2
      cases r1
      · refine ⟨j, rfl, by omega, by omega, k _ _ always _ _ rh1 k1 ⟨?_, fun G H _ _ _ i hi => ?_, fun G H _ rh' _ i d x H' hd hy => ?_, fun G H _ _ _ i hi => ?_⟩ q1⟩
        · rw [rangeD_len, sizeLine_eq]; omega
        · show i < j.toNat
          rw [rangeD_len] at hi; exact hi
        · obtain ⟨e, hx⟩ := hy
          subst e hx
          obtain ⟨_, e⟩ := rangeD_get hd
          subst e
          rw [Int.zero_add]
          exact ⟨.int _, rh', Keep.refl _ _⟩
        · show j.toNat ≤ i
          rw [rangeD_len] at hi; exact hi
      ⟩
/-! ### for -/
def wForL (stay : GH → Prop) (g : TGd) (t : TSd) (De : DEnds) : List D → Ev → GH → Prop
  | [], env, G => stay G ∧ De.nx env G
  | d :: ds, env, G => stay G ∧ g d env G (fun env1 G1 => t { De with nx := fun e G => wForL stay g t De ds e G, ct := fun e G => wForL stay g t De ds e G, bk := De.nx } env1 G1) (fun c xs G' => De.ex c xs env G')
def wFor (wi : TId) (g : TGd) (t : TSd) : TSd := fun De env G => wi env G (fun ds stay G1 => wForL stay g t De ds env G1) (fun c xs G' => De.ex c xs env G')
theorem drop_cons {α : Type} {ds : List α} {i : Nat} (h : i < ds.length) : ds.drop i = ds[i] :: ds.drop (i + 1) := List.drop_eq_getElem_cons h
theorem q_for {iter : Expr} {body : List Stmt} {wi : TId} {g : TGd} {t : TSd} (hp : PassesOwn (model X.prog X.w) X.A X.env X.xe) (hc : X.calm = true) (hi : QI T X W tg iter wi) (hg : QG T X W tg g) (hb : QSs T X W body t)
    (hs : ∀ x, foldedSetIterable iter X.env x = pure x := by intro _; rfl) : QS T X W (.For tg iter body [] pos) (wFor wi g t) :=
  QS.of (ps_for hp hc hi.pi hg.pg hb.pss hs) fun env0 G0 De Dv σ0 H0 rs0 rh0 ex en q => by
    refine ⟨env0, G0, _, _, rs0, rh0, ex.at rs0, q, fun J ds stay G1 H1 rh1 k1 src q1 => ?_⟩
    refine ⟨fun i m σ H => ∃ env G, RS T G H env σ ∧ RH T G H ∧ Keep G1 H1 G H ∧ m = ds.length - i ∧ i ≤ ds.length ∧ wForL stay g t De (ds.drop i) env G, ⟨ds.length, env0, G1, rs0.keep k1, rh1, Keep.refl _ _, by simp, Nat.zero_le _, by simpa using q1⟩, ?_⟩
    rintro i m σ H ⟨env, G, rs, rh, k, rfl, hi, q⟩
    by_cases hlt : i < ds.length
    · rw [drop_cons hlt] at q
      obtain ⟨st, q⟩ := q
      refine .inr ⟨src.go G H k rh st i hlt, fun σ' H' => ∃ env G, RS T G H' env σ' ∧ RH T G H' ∧ Keep G1 H1 G H' ∧ wForL stay g t De (ds.drop (i + 1)) env G, fun σ' H' ⟨e, G', a, b, c, d⟩ => ⟨ds.length - (i + 1), by omega, e, G', a, b, c, rfl, by omega, d⟩, fun x H' hy => ?_⟩
      obtain ⟨rx, rh', k'⟩ := src.yld G H k rh st i ds[i] x H' (List.getElem?_eq_getElem hlt) hy
      have kk := k.trans k'
      have k01 := k1.trans kk
      refine ⟨ds[i], env, G, _, _, rx, rs.keep k', rh', (ex.keep k01).at (rs.keep k'), q, fun env2 G2 σ2 H2 rs2 rh2 k2 q2 => ?_⟩
      have k02 := k01.trans k2
      refine ⟨env2, G2, { De with nx := fun e G => wForL stay g t De (ds.drop (i + 1)) e G, ct := fun e G => wForL stay g t De (ds.drop (i + 1)) e G, bk := De.nx }, rs2, rh2, ex.keep k02, ⟨?_, ?_, ?_, ?_⟩, q2⟩
      · exact fun e3 G3 σ3 H3 a b c d => ⟨e3, G3, a, b, (kk.trans k2).trans c, d⟩
      · exact fun d v G' H' a b c q => en.rt _ _ _ _ a b (k02.trans c) q
      · exact fun e3 G3 σ3 H3 a b c d => en.nx _ _ _ _ a b (k02.trans c) d
      · exact fun e3 G3 σ3 H3 a b c d => ⟨e3, G3, a, b, (kk.trans k2).trans c, d⟩
    · have e : i = ds.length := by omega
      subst e
      rw [List.drop_length] at q
      exact .inl ⟨src.stop G H k rh q.1 _ (Nat.le_refl _), en.nx _ _ _ _ rs rh (k1.trans k) q.2⟩
/-! ### comprehensions -/
/-- a target made of names: it stores into the slots of vs alone -/
def GOk (T : Tb) (vs : List Nat) (g : TG) (gd : TGd) : Prop :=
  ∀ d x env σ G H (Q : Ev → GH → Prop) (Ex : DX) (Qg : List (Option V) → Hp → Prop), RV T G H d x → RS T G H env σ → gd d env G Q Ex → (∀ env' σ', RS T G H env' σ' → wipe σ' vs = wipe σ vs → Q env' G → Qg σ' H) → g x σ H Qg
def wCompL (p : Addr) (stay : GH → Prop) (gd : TGd) (tt : TTd) (te : TEd) (env0 : Ev) (Q : List D → GH → Prop) : List D → List D → GH → Prop
  | [], acc, G => stay G ∧ G p = some (.lst acc) ∧ Q acc G
  | d :: ds, acc, G => stay G ∧ gd d env0 G (fun env1 G1 => tt env1 G1 (fun b G2 => if b = true then te env1 G2 (fun y G3 => G3 p = some (.lst acc) ∧ wCompL p stay gd tt te env0 Q ds (acc ++ [y]) (gset G3 p (.lst (acc ++ [y])))) (fun _ _ _ => False)
      else wCompL p stay gd tt te env0 Q ds acc G2) (fun _ _ _ => False)) (fun _ _ _ => False)
/-- [te for gd in wi if tt], a list that is not changed any more -/
def wLc (wi : TId) (gd : TGd) (tt : TTd) (te : TEd) (vs : List Nat) : TEd := fun env G Q Ex => wi env G (fun ds stay G1 => ∀ p, G1 p = none → wCompL p stay gd tt te (wipeE env vs) (fun acc G2 => Q (.lst acc) (gdel G2 p)) ds [] (gset G1 p (.lst []))) Ex
/-- .. that may be changed -/
def wLcM (wi : TId) (gd : TGd) (tt : TTd) (te : TEd) (vs : List Nat) : TEd := fun env G Q Ex => wi env G (fun ds stay G1 => ∀ p, G1 p = none → wCompL p stay gd tt te (wipeE env vs) (fun _ G2 => Q (.ref p) G2) ds [] (gset G1 p (.lst []))) Ex
structure QTs (T : Tb) (X : Cx) (W : WX) (ifs : List Expr) (t : TTd) : Prop where
  pts : PTs X ifs (liftT T W t)
def wYes : TTd := fun _ G Q _ => Q true G
theorem PTs.imp {ifs : List Expr} {t0 t1 : TT} (h : PTs X ifs t0) (hi : ∀ σ H Q, t1 σ H Q → t0 σ H Q) : PTs X ifs t1 := ⟨fun pins s σ H Q I q => h.run pins s σ H Q I (hi σ H Q q)⟩
theorem qts_nil : QTs T X W [] wYes := ⟨PTs.imp pts_nil fun σ H Qb ⟨env, G, Q, Ex, rs, rh, ex, q, k⟩ => k true H G rh (Keep.refl _ _) q⟩
theorem qts_one {c : Expr} {t : TTd} (h : QT T X W c t) : QTs T X W [c] t := ⟨pts_one h.pt⟩
abbrev W0 : WX := fun _ _ _ _ => False
theorem lc_in {wi : TId} {g : TG} {gd : TGd} {tt : TTd} {te : TEd} {vs : List Nat} (hg : GOk T vs g gd) {env0 : Ev} {G0 : GH} {H0 : Hp} {σ0 : List (Option V)} {Ex : DX} {Qd : D → GH → Prop} {Qv : VK} {fin : Addr → List D → D} {gfin : Addr → GH → GH}
    (hfin : ∀ (p : Addr) (acc : List D) (G : GH) (H : Hp), RH T G H → G p = some (.lst acc) → RV T (gfin p G) H (fin p acc) (.ref p) ∧ RH T (gfin p G) H ∧ ∀ G1 H1, Keep G1 H1 G H → Keep G1 H1 (gfin p G) H)
    (rs0 : RS T G0 H0 env0 σ0) (rh0 : RH T G0 H0) (ex : ExOk T W G0 H0 σ0 Ex)
    (q : wi env0 G0 (fun ds stay G1 => ∀ p, G1 p = none → wCompL p stay gd tt te (wipeE env0 vs) (fun acc G2 => Qd (fin p acc) (gfin p G2)) ds [] (gset G1 p (.lst []))) Ex)
    (kf : ∀ d v G' H', RV T G' H' d v → RH T G' H' → Keep G0 H0 G' H' → Qd d G' → Qv v H') : tLc (liftI T W wi) g (liftT T W0 tt) (liftE T W0 te) vs σ0 H0 Qv := by
  refine ⟨env0, G0, _, Ex, rs0, rh0, ex, q, fun J ds stay G1 H1 rh1 k1 src q1 p np => ?_⟩
  have q1 := q1 p (rh1.fresh np)
  have kn : Keep G1 H1 (gset G1 p (.lst [])) (upd H1 p (.lst [])) := Keep.newG np
  have rhn : RH T (gset G1 p (.lst [])) (upd H1 p (.lst [])) := rh1.newG (d := .lst []) np ⟨[], upd_same, Nat.zero_le _, .nil⟩
  refine ⟨fun i m H => ∃ G acc, RH T G H ∧ Keep G1 H1 G H ∧ m = ds.length - i ∧ i ≤ ds.length ∧ acc.length ≤ i ∧ wCompL p stay gd tt te (wipeE env0 vs) (fun acc G2 => Qd (fin p acc) (gfin p G2)) (ds.drop i) acc G,
    ⟨ds.length, _, [], rhn, kn, by simp, Nat.zero_le _, Nat.le_refl _, by simpa using q1⟩, ?_⟩
  rintro i m H ⟨G, acc, rh, k, rfl, hi, hacc, q⟩
  have rsE : RS T G H (wipeE env0 vs) (wipe σ0 vs) := ((rs0.keep k1).keep k).wipe vs
  by_cases hlt : i < ds.length
  · rw [drop_cons hlt] at q
    obtain ⟨st, q⟩ := q
    refine .inr ⟨src.go G H k rh st i hlt, fun H' => ∃ G acc, RH T G H' ∧ Keep G1 H1 G H' ∧ acc.length ≤ i + 1 ∧ wCompL p stay gd tt te (wipeE env0 vs) (fun acc G2 => Qd (fin p acc) (gfin p G2)) (ds.drop (i + 1)) acc G,
      fun H' ⟨G', acc', a, b, c, d⟩ => ⟨ds.length - (i + 1), by omega, G', acc', a, b, rfl, by omega, c, d⟩, fun x H' hy => ?_⟩
    obtain ⟨rx, rh', k'⟩ := src.yld G H k rh st i ds[i] x H' (List.getElem?_eq_getElem hlt) hy
    refine hg _ _ _ _ _ _ _ _ _ rx (rsE.keep k') q fun env1 σ1 rs1 hw q1 => ⟨by rw [hw]; exact wipe_wipe σ0 vs, ?_⟩
    refine intoT rs1 rh' (fun _ _ _ _ _ _ z => z.elim) q1 fun b G2 H2 rh2 k2 q2 => ?_
    cases b with
    | false =>
      rw [if_neg Bool.false_ne_true] at q2 ⊢
      exact ⟨G2, acc, rh2, (k.trans k').trans k2, by omega, q2⟩
    | true =>
      rw [if_pos rfl] at q2 ⊢
      refine intoE (rs1.keep k2) rh2 (fun _ _ _ _ _ _ z => z.elim) q2 fun y v G3 H3 ry rh3 k3 ⟨g3, q3⟩ => ?_
      obtain ⟨us, hu, lu, ru⟩ := rh3 p _ g3
      have sl := src.len
      have hl : acc.length < sizeLine := by omega
      refine ⟨us, hu, by rw [← ru.length]; exact hl, gset G3 p (.lst (acc ++ [y])), acc ++ [y], ?_, ?_, by rw [List.length_append, List.length_singleton]; omega, q3⟩
      · exact rh3.put (d := .lst (acc ++ [y])) g3 ⟨us ++ [v], upd_same, by rw [List.length_append, List.length_singleton]; omega, (ru.append (.cons ry .nil)).keep (Keep.put g3)⟩
      · exact (((k.trans k').trans k2).trans k3).trans (Keep.put g3)
  · have e : i = ds.length := by omega
    subst e
    rw [List.drop_length] at q
    obtain ⟨st, gp, q⟩ := q
    obtain ⟨a, b, c⟩ := hfin p acc G H rh gp
    exact .inl ⟨src.stop G H k rh st _ (Nat.le_refl _), kf _ _ _ _ a b (c _ _ (k1.trans k)) q⟩
end
end DL
set_option Elab.async false
set_option linter.all false
set_option maxRecDepth 100000
set_option maxHeartbeats 4000000
namespace DL
open PySem PySem.Spec PyProof.Rows L2
section
variable {T : Tb} {X : Cx} {W : WX} {tg iter elt e a b : Expr} {ifs : List Expr} {es : List Expr} {te ta tb : TEd} {pos p spos : Pos}
theorem fin_frz {T : Tb} (p : Addr) (acc : List D) (G : GH) (H : Hp) (rh : RH T G H) (g : G p = some (.lst acc)) : RV T (gdel G p) H (.lst acc) (.ref p) ∧ RH T (gdel G p) H ∧ ∀ G1 H1, Keep G1 H1 G H → Keep G1 H1 (gdel G p) H := by
  obtain ⟨xs, hx, l, r⟩ := rh p _ g
  exact ⟨.lst gdel_same hx l (r.keep Keep.freeze), rh.freeze p, fun G1 H1 k => k.trans Keep.freeze⟩
theorem fin_mut {T : Tb} (p : Addr) (acc : List D) (G : GH) (H : Hp) (rh : RH T G H) (g : G p = some (.lst acc)) : RV T G H (.ref p) (.ref p) ∧ RH T G H ∧ ∀ G1 H1, Keep G1 H1 G H → Keep G1 H1 G H := ⟨.ref p, rh, fun _ _ k => k⟩
theorem gok_name {vs : List Nat} (i : Nat) (h : i ∈ vs) : GOk T vs (gName i) (gdName i) := fun d x env σ G H Q Ex Qg rd rs q k => k _ _ (rs.set i rd) (wipe_mem σ i _ vs h) q
/-- several names, for a tuple -/
def gdNames : List Nat → List D → Ev → Option Ev
  | [], [], env => some env
  | i :: is, d :: ds, env => gdNames is ds (env.set i (some d))
  | _, _, _ => none
def gdTupN (is : List Nat) : TGd := fun d env G Q _ => ∃ ds env', d = .tup ds ∧ gdNames is ds env = some env' ∧ Q env' G
def gNames : List Nat → TGs
  | [] => gNil
  | i :: is => gCons (gName i) (gNames is)
theorem gnames_len : ∀ {is : List Nat} {ds : List D} {env env' : Ev}, gdNames is ds env = some env' → ds.length = is.length
  | [], [], _, _, _ => rfl
  | [], _ :: _, _, _, h => nomatch h
  | _ :: _, [], _, _, h => nomatch h
  | i :: is, d :: ds, env, env', h => congrArg (· + 1) (gnames_len (is := is) (ds := ds) h)
theorem gnames_in {vs : List Nat} : ∀ (is : List Nat) {ds : List D} {xs : List V} {env env' : Ev} {σ : List (Option V)} {G : GH} {H : Hp} {Qg : List (Option V) → Hp → Prop}, (∀ i ∈ is, i ∈ vs) → RVs T G H ds xs → RS T G H env σ → gdNames is ds env = some env' →
    (∀ σ', RS T G H env' σ' → wipe σ' vs = wipe σ vs → Qg σ' H) → gNames is xs σ H Qg
  | [], [], _, env, env', σ, G, H, Qg, _, .nil, rs, e, k => ⟨rfl, by cases e; exact k σ rs rfl⟩
  | [], _ :: _, _, _, _, _, _, _, _, _, _, _, e, _ => nomatch e
  | _ :: _, [], _, _, _, _, _, _, _, _, _, _, e, _ => nomatch e
  | i :: is, d :: ds, _, env, env', σ, G, H, Qg, hm, .cons r rr, rs, e, k =>
    ⟨_, _, rfl, gnames_in is (fun j hj => hm j (List.mem_cons_of_mem _ hj)) rr (rs.set i r) e fun σ' a b => k σ' a (b.trans (wipe_mem σ i _ vs (hm i List.mem_cons_self)))⟩
theorem gok_tup {vs is : List Nat} {K : PySem.W.Frag} (hK : K = T.K) (h : ∀ i ∈ is, i ∈ vs) : GOk T vs (gTup K is.length (gNames is)) (gdTupN is) := fun d x env σ G H Q Ex Qg rd rs ⟨ds, env', e, e2, q⟩ k => by
  subst e
  cases rd with
  | tup hx l r =>
    rw [hK]
    exact ⟨_, _, rfl, hx.sq, by rw [← r.length]; exact gnames_len e2, gnames_in is h r rs e2 fun σ' a b => k env' σ' a b q⟩
theorem pgs_names0 : PGs X [] (gNames []) := pgs_nil
theorem pgs_namesC {i : Nat} {is : List Nat} {x : Str} {es : List Expr} (hN : X.N.Nodup) (hi : X.N[i]? = some x) (hx : Loc X.env.scope x) (h : PGs X es (gNames is)) (hs : (assignEach (.Name x p :: es) X.env).map (·.2) = assign (.Name x p) X.env :: (assignEach es X.env).map (·.2) := by rfl)
    (hf : X.fn x = true ∨ X.env.scope.names.lookup x = some .local := by first | exact .inl rfl | exact .inr rfl | assumption) : PGs X (.Name x p :: es) (gNames (i :: is)) := pgs_cons (pg_name hN hi hx hf) h hs
/-- as a target of a plain assignment or a for -/
theorem qg_names {k : Nat} {is : List Nat} (hK : X.K = T.K) (hc : X.calm = true) (h : PGs X es (gNames is)) (hn : (assignEach es X.env).length = is.length := by rfl) (hst : (assignEach es X.env).findIdx? (·.1) = none := by rfl) : QG T X W (.Tuple es k pos) (gdTupN is) :=
  ⟨PG.imp (pg_tup hc h hn hst) fun v σ H Qg ⟨d, env, G, Q, Ex, rd, rs, rh, ex, ⟨ds, env', e, e2, q⟩, kk⟩ => by
    subst e
    cases rd with
    | tup hx l r =>
      rw [hK]
      exact ⟨_, _, rfl, hx.sq, by rw [← r.length]; exact gnames_len e2, gnames_in (vs := is) is (fun i h => h) r rs e2 fun σ' a b => kk env' G σ' H a rh (Keep.refl _ _) q⟩⟩
variable {scope : Scope} {own : List (Str × Nat)} {wi : TId} {g : TG} {gd : TGd} {tt : TTd}
theorem q_lc (hc : X.calm = true) (hN : X.N.Nodup) (hi : QI T X W tg iter wi) (ok : BlkOk X.N X.env.scope scope own) (go : GOk T (own.map (·.2)) g gd)
    (hg : ∀ (s : Shared) (H : Hp) (C : Addr) (cl : List (Str × Addr)) (fp : List Addr), PG (X.blk s H scope (compEnvC scope cl C X.env) fp) tg g) (ht : ∀ (s : Shared) (H : Hp) (C : Addr) (cl : List (Str × Addr)) (fp : List Addr), QTs T (X.blk s H scope (compEnvC scope cl C X.env) fp) W0 ifs tt)
    (he : ∀ (s : Shared) (H : Hp) (C : Addr) (cl : List (Str × Addr)) (fp : List Addr), QE T (X.blk s H scope (compEnvC scope cl C X.env) fp) W0 elt te) (hs : ∀ x, foldedSetIterable iter X.env x = pure x := by intro _; rfl) :
    QE T X W (.ListComp elt [⟨tg, iter, ifs, 0⟩] scope pos) (wLc wi gd tt te (own.map (·.2))) :=
  QE.of (pe_lc hc hN hi.pi ok hg (fun s H C cl fp => (ht s H C cl fp).pts) (fun s H C cl fp => (he s H C cl fp).pe) hs) fun env G σ H Q Ex Qv rs rh ex q k =>
    lc_in (fin := fun p acc => .lst acc) (gfin := fun p G => gdel G p) go fin_frz rs rh ex q k
theorem q_lcM (hc : X.calm = true) (hN : X.N.Nodup) (hi : QI T X W tg iter wi) (ok : BlkOk X.N X.env.scope scope own) (go : GOk T (own.map (·.2)) g gd)
    (hg : ∀ (s : Shared) (H : Hp) (C : Addr) (cl : List (Str × Addr)) (fp : List Addr), PG (X.blk s H scope (compEnvC scope cl C X.env) fp) tg g) (ht : ∀ (s : Shared) (H : Hp) (C : Addr) (cl : List (Str × Addr)) (fp : List Addr), QTs T (X.blk s H scope (compEnvC scope cl C X.env) fp) W0 ifs tt)
    (he : ∀ (s : Shared) (H : Hp) (C : Addr) (cl : List (Str × Addr)) (fp : List Addr), QE T (X.blk s H scope (compEnvC scope cl C X.env) fp) W0 elt te) (hs : ∀ x, foldedSetIterable iter X.env x = pure x := by intro _; rfl) :
    QE T X W (.ListComp elt [⟨tg, iter, ifs, 0⟩] scope pos) (wLcM wi gd tt te (own.map (·.2))) :=
  QE.of (pe_lc hc hN hi.pi ok hg (fun s H C cl fp => (ht s H C cl fp).pts) (fun s H C cl fp => (he s H C cl fp).pe) hs) fun env G σ H Q Ex Qv rs rh ex q k =>
    lc_in (fin := fun p _ => .ref p) (gfin := fun _ G => G) go fin_mut rs rh ex q k
/-- name = [..] -/
theorem q_setLc {i : Nat} {y : Str} {py : Pos} (hc : X.calm = true) (hN : X.N.Nodup) (hy : X.N[i]? = some y) (hyl : X.env.scope.names.lookup y = some .local)
    (hsw : swapsWith (.ListComp elt [⟨tg, iter, ifs, 0⟩] scope pos) (some (.Name y py)) spos.line X.env = pure true) (hi : QI T X W tg iter wi) (ok : BlkOk X.N X.env.scope scope own) (go : GOk T (own.map (·.2)) g gd)
    (hg : ∀ (s : Shared) (H : Hp) (C : Addr) (cl : List (Str × Addr)) (fp : List Addr), PG (X.blk s H scope (compEnvC scope cl C X.env) fp) tg g) (ht : ∀ (s : Shared) (H : Hp) (C : Addr) (cl : List (Str × Addr)) (fp : List Addr), QTs T (X.blk s H scope (compEnvC scope cl C X.env) fp) W0 ifs tt)
    (he : ∀ (s : Shared) (H : Hp) (C : Addr) (cl : List (Str × Addr)) (fp : List Addr), QE T (X.blk s H scope (compEnvC scope cl C X.env) fp) W0 elt te) (hs : ∀ x, foldedSetIterable iter X.env x = pure x := by intro _; rfl) :
    QS T X W (.Assign [.Name y py] (.ListComp elt [⟨tg, iter, ifs, 0⟩] scope pos) spos) (wSet i (wLc wi gd tt te (own.map (·.2)))) :=
  QS.of (ps_setLc hc hN hy hyl hsw hi.pi ok hg (fun s H C cl fp => (ht s H C cl fp).pts) (fun s H C cl fp => (he s H C cl fp).pe) hs) fun env G De Dv σ H rs rh ex en q =>
    lc_in (fin := fun p acc => .lst acc) (gfin := fun p G => gdel G p) (Qd := fun d G1 => De.nx (env.set i (some d)) G1) go fin_frz rs rh (ex.at rs) q fun d v G' H' rd rh' k' q' => en.nx _ _ _ _ ((rs.keep k').set i rd) rh' k' q'
theorem q_setLcM {i : Nat} {y : Str} {py : Pos} (hc : X.calm = true) (hN : X.N.Nodup) (hy : X.N[i]? = some y) (hyl : X.env.scope.names.lookup y = some .local)
    (hsw : swapsWith (.ListComp elt [⟨tg, iter, ifs, 0⟩] scope pos) (some (.Name y py)) spos.line X.env = pure true) (hi : QI T X W tg iter wi) (ok : BlkOk X.N X.env.scope scope own) (go : GOk T (own.map (·.2)) g gd)
    (hg : ∀ (s : Shared) (H : Hp) (C : Addr) (cl : List (Str × Addr)) (fp : List Addr), PG (X.blk s H scope (compEnvC scope cl C X.env) fp) tg g) (ht : ∀ (s : Shared) (H : Hp) (C : Addr) (cl : List (Str × Addr)) (fp : List Addr), QTs T (X.blk s H scope (compEnvC scope cl C X.env) fp) W0 ifs tt)
    (he : ∀ (s : Shared) (H : Hp) (C : Addr) (cl : List (Str × Addr)) (fp : List Addr), QE T (X.blk s H scope (compEnvC scope cl C X.env) fp) W0 elt te) (hs : ∀ x, foldedSetIterable iter X.env x = pure x := by intro _; rfl) :
    QS T X W (.Assign [.Name y py] (.ListComp elt [⟨tg, iter, ifs, 0⟩] scope pos) spos) (wSet i (wLcM wi gd tt te (own.map (·.2)))) :=
  QS.of (ps_setLc hc hN hy hyl hsw hi.pi ok hg (fun s H C cl fp => (ht s H C cl fp).pts) (fun s H C cl fp => (he s H C cl fp).pe) hs) fun env G De Dv σ H rs rh ex en q =>
    lc_in (fin := fun p _ => .ref p) (gfin := fun _ G => G) (Qd := fun d G1 => De.nx (env.set i (some d)) G1) go fin_mut rs rh (ex.at rs) q fun d v G' H' rd rh' k' q' => en.nx _ _ _ _ ((rs.keep k').set i rd) rh' k' q'
/-- the iterable is a text -/
def strD (z : Str) : List D := z.cps.toList.map fun c => D.str ⟨#[c]⟩
end
/-! ### defs -/
/-- what a def promises, of data -/
abbrev DSp := List D → GH → DK → DX → Prop
/-- room for a call, and no repr around -/
structure RoomG (k : Nat) (A : Around) : Prop where
  r : Room k A
  g : A.guards = some []
theorem RoomG.mono {j k : Nat} {A : Around} (r : RoomG k A) (h : j ≤ k) : RoomG j A := ⟨r.r.mono h, r.g⟩
theorem guards_deeper (A : Around) (env : Env) : (A.deeper env).guards = A.guards := by
  first
    | rfl
    | (obtain ⟨a, b, c, d, e⟩ := A; cases d <;> rfl)
def liftSp (T : Tb) (sp : DSp) : Sp := fun vs H Qv Ev' => ∃ ds G Q Ex, RVs T G H ds vs ∧ RH T G H ∧ sp ds G Q Ex ∧ (∀ v H', QV T G H Q v H' → Qv v H') ∧
  ∀ c xs G' cl dx H', Ex c xs G' → RX T G' H' c xs cl dx → RH T G' H' → Keep G H G' H' → Ev' cl dx H'
/-- the def at f keeps its promise -/
structure FnG (P : Program) (w : World) (K : PySem.W.Frag) (mg : Str → Option Value) (base : Heap) (CX : CXT) (k : Nat) (f : Addr) (fd : FuncData) (ps : List Str) (sp : Sp) : Prop where
  len : ∀ vs H Q E, sp vs H Q E → vs.length = ps.length
  run : ∀ (A : Around) (outer : List Env) (s : Shared) (H : Hp) (args : Args) (us : List Value) (vs : List V) (Q : VK) (E : XK), RoomG k A → Env0 P w K mg base A outer s H → BindsTo s fd args (ps.zip us) → Vals vs us → sp vs H Q E →
    codeAny (model P w) A (.call (.ref f) args) (CR CX outer P w H s Q E) s
theorem FnG.mono {P : Program} {w : World} {K : PySem.W.Frag} {mg : Str → Option Value} {base : Heap} {CX : CXT} {j k : Nat} {f : Addr} {fd : FuncData} {ps : List Str} {sp : Sp} (F : FnG P w K mg base CX j f fd ps sp) (h : j ≤ k) : FnG P w K mg base CX k f fd ps sp :=
  ⟨F.len, fun A outer s H args us vs Q E hr => F.run A outer s H args us vs Q E (hr.mono h)⟩

theorem FnG.cast {P : Program} {w : World} {K : PySem.W.Frag} {mg : Str → Option Value} {base : Heap} {CX : CXT} {k : Nat} {f : Addr} {fd : FuncData} {ps : List Str} {sp sp' : Sp} (F : FnG P w K mg base CX k f fd ps sp) (h : ∀ vs H Q E, sp' vs H Q E → sp vs H Q E) : FnG P w K mg base CX k f fd ps sp' :=
  ⟨fun vs H Q E q => F.len vs H Q E (h _ _ _ _ q), fun A outer s H args us vs Q E hr he hb hv hs => F.run A outer s H args us vs Q E hr he hb hv (h _ _ _ _ hs)⟩
def startD (N : List Str) (ds : List D) : Ev := ds.map some ++ List.replicate (N.length - ds.length) none
theorem start_rs {T : Tb} {G : GH} {H : Hp} {N : List Str} {ds : List D} {vs : List V} (r : RVs T G H ds vs) : RS T G H (startD N ds) (L2.start N vs) := by
  have l := r.length
  refine ⟨by unfold startD L2.start; simp [l], fun i d e => ?_⟩
  unfold startD at e
  by_cases hi : i < ds.length
  · rw [List.getElem?_append_left (by simpa using hi), List.getElem?_map] at e
    obtain ⟨d', e1, e2⟩ := Option.map_eq_some_iff.mp e
    cases e2
    obtain ⟨v, h1, h2⟩ := r.get e1
    refine ⟨v, ?_, h2⟩
    unfold L2.start
    rw [List.getElem?_append_left (by rw [List.length_map]; omega), List.getElem?_map, h1]
    rfl
  · rw [List.getElem?_append_right (by simpa using hi), List.getElem?_replicate] at e
    split at e <;> cases e
/-- the rule for a def: its body's reading -/
theorem fnG_of {CX : CXT} {P : Program} {w : World} {K : PySem.W.Frag} {mg : Str → Option Value} {base : Heap} {k : Nat} {x qual : Str} {st : Stmt} {f : Addr} {fd : FuncData} {N ps : List Str} {sp : Sp} (F : Fun K x qual st f fd) (S : FnScope N ps (defScope st))
    (len : ∀ vs H Q E, sp vs H Q E → vs.length = ps.length)
    (body : ∀ (cdv : Value) (A : Around) (outer : List Env) (s : Shared) (H : Hp) (vs : List V) (Q : VK) (E : XK), RoomG k (A.deeper (envOfC qual (defScope st) s.heap.objs.size f cdv)) → sp vs H Q E →
      ∃ t, PSs (cxOf CX P w K mg base N qual (defScope st) f cdv A outer s H E) (defBody st) t ∧ t { nx := fun _ H' => Q .non H', rt := Q } (L2.start N vs) H) : FnG P w K mg base CX (k + 1) f fd ps sp := by
  obtain ⟨oc, od, kV, doc, pm, an, cdv, ct, osl, rfl, lk, hcd⟩ := F.ex
  refine ⟨len, fun A outer s H args us vs Q E rg e0 bind rv hs => ?_⟩
  have hl := len _ _ _ _ hs
  have here : ∀ b o, base.get? b = some o → s.heap.get? b = some o := fun b o e => (e0.bs b o e).1
  have KX : K.In s.heap := e0.mod.kin.keeps here
  have scopes : ∀ y ∈ ps.zip us, (defScope st).names.lookup y.1 = some .local ∨ ((defScope st).names.lookup y.1 = some .cell ∧ ((cellsFrom (s.heap.objs.size + 1) (defScope st).names []).lookup y.1).isSome = true) := by
    rintro ⟨n, v⟩ hy
    rcases S.par n (List.of_mem_zip hy).1 with q | q
    · exact Or.inl q
    · exact Or.inr ⟨q, PySem.W.cellsFrom_some _ _ _ (Or.inl q)⟩
  refine codeAny_call_function rg.r.depth (KX _ _ lk) rfl S.co S.gen rfl (PySem.W.codeRec_of KX hcd) (bind _ _ _ _ ?_)
  refine wpAny_newFunctionEnv_cells S.kind scopes fun env he s1 inn => ?_
  subst he
  refine ⟨(e0.mod.nolimit.keeps here).keeps inn.toInCall.keep, codeAny_func ?_⟩
  obtain ⟨t, ht, hq⟩ := body cdv A outer s H vs Q E ⟨rg.r.deeper _, (guards_deeper A _).trans rg.g⟩ hs
  have I := inv_start (CX := CX) (cd := cdv) (f := f) (E := E) S rg.r.hd e0 hl rv inn
  refine wpAny_mono (ht.run [] s1 (L2.start N vs) H _ I hq) (fun fl s' ends => ?_) fun _ _ z => z
  cases fl with
  | ret u => exact let ⟨v, _, H', J, r', q⟩ := ends; ⟨v, H', J.os, J.bare, J.base, J.hok, r', q⟩
  | next => exact let ⟨_, H', J, q⟩ := ends; ⟨V.non, H', J.os, J.bare, J.base, J.hok, rfl, q⟩
  | brk => exact let ⟨_, _, _, q⟩ := ends; q.elim
  | cont => exact let ⟨_, _, _, q⟩ := ends; q.elim
/-- the same, of data -/
theorem okD_of {T : Tb} {P : Program} {w : World} {mg : Str → Option Value} {base : Heap} {k : Nat} {x qual : Str} {st : Stmt} {f : Addr} {fd : FuncData} {N ps : List Str} {sp : DSp} {t : TSd} (F : Fun T.K x qual st f fd) (S : FnScope N ps (defScope st))
    (len : ∀ ds G Q Ex, sp ds G Q Ex → ds.length = ps.length)
    (body : ∀ (cdv : Value) (A : Around) (outer : List Env) (s : Shared) (H : Hp) (E : XK), RoomG k (A.deeper (envOfC qual (defScope st) s.heap.objs.size f cdv)) →
      QSs T (cxOf (L2.CX P w) P w T.K mg base N qual (defScope st) f cdv A outer s H E) (fun cls d _ H => E cls d H) (defBody st) t)
    (read : ∀ ds G Q Ex, sp ds G Q Ex → t { nx := fun _ G' => Q .non G', rt := Q, bk := fun _ _ => False, ct := fun _ _ => False, ex := fun c xs _ G' => Ex c xs G' } (startD N ds) G) :
    FnG P w T.K mg base (L2.CX P w) (k + 1) f fd ps (liftSp T sp) := by
  refine fnG_of F S (fun vs H Q E ⟨ds, G, Q', Ex, r, _, h, _⟩ => r.length.symm.trans (len _ _ _ _ h)) fun cdv A outer s H vs Q E hr ⟨ds, G, Q', Ex, r, rh, h, k1, k2⟩ => ⟨_, (body cdv A outer s H E hr).pss, ?_⟩
  refine ⟨startD N ds, G, _, start_rs r, rh, fun c xs env' G' cl dx σ' H' e rx rs rh' kp => k2 c xs G' cl dx H' e rx rh' kp, ⟨?_, ?_, ?_, ?_⟩, read ds G Q' Ex h⟩
  · exact fun _ G' _ H' _ b c q => k1 _ _ ⟨.non, G', .non, b, c, q⟩
  · exact fun d v G' H' a b c q => k1 _ _ ⟨d, G', a, b, c, q⟩
  · exact fun _ _ _ _ _ _ _ z => z.elim
  · exact fun _ _ _ _ _ _ _ z => z.elim
section
variable {T : Tb} {X : Cx} {W : WX} {k : Nat} {f : Addr} {fd : FuncData} {ps : List Str} {sp : DSp} {x : Str} {p pos : Pos} {e : Expr} {es : List Expr} {u : TAd}
def wFn (sp : DSp) (t : TAd) : TEd := fun env G Q Ex => t env G (fun ds G1 => sp ds G1 Q Ex) Ex
theorem run_G {pins : List (Addr × Obj)} {σ : List (Option V)} {H : Hp} {s : Shared} {Q : VK} {us ds : List Value} {vs dvs : List V} {sp : Sp} (tk : Takes X W) (F : FnG X.prog X.w X.K X.mg X.base (L2.CX X.prog X.w) k f fd ps sp) (hr : RoomG k X.A) (hb : Binds X.K fd ps ds) (hd : Vals dvs ds)
    (I : Inv X pins σ H s) (r : Vals vs us) (h : sp (vs ++ dvs) H Q (WE W σ)) : wpAny (model X.prog X.w) X.A (call (.ref f) us) (EP X pins σ Q) X.xe s := by
  have r2 := r.append hd
  have hl : (us ++ ds).length = ps.length := r2.length.symm.trans (F.len _ _ _ _ h)
  refine wpAny_call (codeAny_mono (F.run X.A X.stack s H ⟨us, []⟩ (us ++ ds) (vs ++ dvs) Q (WE W σ) hr I.env0 (hb s us I.kIn hl) r2 h) fun res s' hq => ?_)
  rcases res with er | (fl | fl | fl | fl)
  · exact passAt tk σ pins H s er s' I hq
  all_goals first | exact I.after hq | exact False.elim hq
theorem intoSp {T : Tb} {W : WX} {sp : DSp} {ds : List D} {vs : List V} {G : GH} {H : Hp} {σ : List (Option V)} {Q : DK} {Ex : DX} {Qv : VK} (r : RVs T G H ds vs) (rh : RH T G H) (ex : ExOk T W G H σ Ex) (h : sp ds G Q Ex)
    (k : ∀ d v G' H', RV T G' H' d v → RH T G' H' → Keep G H G' H' → Q d G' → Qv v H') : liftSp T sp vs H Qv (WE W σ) :=
  ⟨ds, G, Q, Ex, r, rh, h, fun v H' ⟨d, G', a, b, c, q⟩ => k d v G' H' a b c q, fun c xs G' cl dx H' a b d e => ex c xs G' cl dx H' a b d e⟩
theorem q_call (tk : Takes X W) (F : FnG X.prog X.w X.K X.mg X.base (L2.CX X.prog X.w) k f fd ps (liftSp T sp)) (hr : RoomG k X.A) (hg : Gl X x) (hm : X.mg x = some (.ref f)) (hk : PySem.W.keepIn X.K (.ref f) = true) (hb : Binds X.K fd ps [])
    (ha : QA T X W (e :: es) u) (hdb : (x == ("__debug__" : Str)) = false := by decide) (he : starEach (e :: es) X.env = (false, eval e X.env) :: starEach es X.env := by rfl) (hpl : (backTo pos (starEach es X.env)).any (·.1) = false := by rfl) :
    QE T X W (.Call (.Name x p) (e :: es) [] pos) (wFn sp u) :=
  ⟨⟨fun pins s σ H Qv I ⟨env, G, Q, Ex, rs, rh, ex, q, kq⟩ => by
    refine wpAny_Call_Name_kw (ld_glob I hg hm ?_ hdb)
    have q' : liftA T W u σ H (fun vs H1 => liftSp T sp vs H1 Qv (WE W σ)) := intoA rs rh ex q fun ds vs G1 H1 rds rh1 k1 q1 =>
      intoSp rds rh1 (ex.keep k1) q1 fun d v G' H' a b c d' => kq v H' ⟨d, G', a, b, k1.trans c, d'⟩
    refine PySem.W.callWith_K (h₀ := X.base) I.ok.mod.kin hk (thn (ha.pa.run pos pins s σ H _ I q') fun us s1 ⟨vs, H1, I1, r, q2⟩ => ⟨I1.kIn, ?_⟩) he hpl
    refine run_G tk F hr hb .nil I1 r ?_
    rw [List.append_nil]
    exact q2⟩⟩
theorem q_call0 (tk : Takes X W) (F : FnG X.prog X.w X.K X.mg X.base (L2.CX X.prog X.w) k f fd ps (liftSp T sp)) (hr : RoomG k X.A) (hg : Gl X x) (hm : X.mg x = some (.ref f)) (hk : PySem.W.keepIn X.K (.ref f) = true) (hb : Binds X.K fd ps [])
    (hdb : (x == ("__debug__" : Str)) = false := by decide) : QE T X W (.Call (.Name x p) [] [] pos) (wFn sp wNil) :=
  ⟨⟨fun pins s σ H Qv I ⟨env, G, Q, Ex, rs, rh, ex, q, kq⟩ => by
    refine wpAny_Call_Name_kw (ld_glob I hg hm ?_ hdb)
    have q' : liftSp T sp [] H Qv (WE W σ) := intoSp .nil rh ex q fun d v G' H' a b c d' => kq v H' ⟨d, G', a, b, c, d'⟩
    exact PySem.W.callWith_K0 I.kIn hk (run_G (us := []) tk F hr hb .nil I .nil (by rw [List.append_nil]; exact q'))⟩⟩
end
end DL
set_option Elab.async false
set_option linter.all false
set_option maxRecDepth 100000
set_option maxHeartbeats 4000000
namespace DL
open PySem PySem.Spec PyProof.Rows L2
def keyP : Key → PyData
  | .inl i => .int i
  | .inr x => .str x
mutual
/-- data with dicts, as it is shown -/
def pyR : D → PyData
  | .non => .none
  | .bl b => .bool b
  | .int i => .int i
  | .str x => .str x
  | .tup xs => .tuple (pyRs xs)
  | .lst xs => .list (pyRs xs)
  | .frl xs => .list (pyRs xs)
  | .ty _ => .none
  | .ref _ => .none
  | .dic ks vs => .dict ((ks.map keyP).zip (pyRs vs))
  | .obj _ _ => .none
  | .exc _ _ _ _ => .none
  | .tupp xs => .tuple (pyRs xs)
def pyRs : List D → List PyData
  | [] => []
  | d :: ds => pyR d :: pyRs ds
end
def scalD : D → Bool
  | .non => true
  | .bl _ => true
  | .int _ => true
  | .str _ => true
  | _ => false
mutual
/-- no dict within -/
def flatD : D → Bool
  | .non => true
  | .bl _ => true
  | .int _ => true
  | .str _ => true
  | .tup xs => flatDs xs
  | .tupp xs => flatDs xs
  | .lst xs => flatDs xs
  | .frl xs => flatDs xs
  | _ => false
def flatDs : List D → Bool
  | [] => true
  | d :: ds => flatD d && flatDs ds
end
section
variable {T : Tb} {X : Cx} {pins : List (Addr × Obj)} {σ : List (Option V)} {G : GH} {H : Hp} {s : Shared}
mutual
theorem RV.reads (hK : X.K = T.K) (I : Inv X pins σ H s) : ∀ {d : D} {v : V} {u : Value}, RV T G H d v → RelV v u → flatD d = true → ∃ as, Reads s.heap u (pyR d) as ∧ (pyR d).hasDict = false
  | _, _, _, .non, r, _ => by cases r; unfold pyR; exact ⟨_, Reads.none, by unfold PyData.hasDict; rfl⟩
  | _, _, _, .bl b, r, _ => by cases r; unfold pyR; exact ⟨_, Reads.bool b, by unfold PyData.hasDict; rfl⟩
  | _, _, _, .int i, r, _ => by obtain ⟨t, rfl⟩ := r; unfold pyR; exact ⟨_, Reads.int i t, by unfold PyData.hasDict; rfl⟩
  | _, _, _, .str x, r, _ => by obtain ⟨t, rfl⟩ := r; unfold pyR; exact ⟨_, Reads.str x t, by unfold PyData.hasDict; rfl⟩
  | _, _, _, .ty n, _, h => by unfold flatD at h; cases h
  | _, _, _, .ref a, _, h => by unfold flatD at h; cases h
  | _, _, _, .dic _ _ _ _ _, _, h => by unfold flatD at h; cases h
  | _, _, _, .obj _ _ _ _, _, h => by unfold flatD at h; cases h
  | _, _, _, .tupp g hx hd n _ rr, r, h => by
    cases r
    obtain ⟨its, rv, ⟨o, ho, hc, n, hd⟩, _⟩ := I.tuple (by rw [hK]; exact (FzT.frz (K := T.K) g hx hd n).sq)
    unfold flatD at h
    obtain ⟨as, q, nd⟩ := RVs.reads hK I rr rv h
    unfold pyR PyData.hasDict
    exact ⟨_, Reads.tuple ho hc hd q, nd⟩
  | _, _, _, .tup hx _ rr, r, h => by
    cases r
    obtain ⟨its, rv, ⟨o, ho, hc, n, hd⟩, _⟩ := I.tuple (by rw [hK]; exact hx.sq)
    unfold flatD at h
    obtain ⟨as, q, nd⟩ := RVs.reads hK I rr rv h
    unfold pyR PyData.hasDict
    exact ⟨_, Reads.tuple ho hc hd q, nd⟩
  | _, _, _, .lst _ hx _ rr, r, h => by
    cases r
    obtain ⟨its, rv, ⟨o, n, ho, hc, _, hd⟩, _⟩ := I.list (SqL.of hx)
    unfold flatD at h
    obtain ⟨as, q, nd⟩ := RVs.reads hK I rr rv h
    unfold pyR PyData.hasDict
    exact ⟨_, Reads.list ho hc hd q, nd⟩
  | _, _, _, .frl hx _ rr, r, h => by
    cases r
    obtain ⟨its, rv, ⟨o, n, ho, hc, _, hd⟩, _⟩ := I.list (by rw [hK]; exact hx.sq)
    unfold flatD at h
    obtain ⟨as, q, nd⟩ := RVs.reads hK I rr rv h
    unfold pyR PyData.hasDict
    exact ⟨_, Reads.list ho hc hd q, nd⟩
theorem RVs.reads (hK : X.K = T.K) (I : Inv X pins σ H s) : ∀ {ds : List D} {vs : List V} {us : List Value}, RVs T G H ds vs → Vals vs us → flatDs ds = true → ∃ as, ReadsAll s.heap us (pyRs ds) as ∧ PyData.hasDictAll (pyRs ds) = false
  | _, _, _, .nil, r, _ => by cases r; unfold pyRs; exact ⟨_, ReadsAll.nil, by unfold PyData.hasDictAll; rfl⟩
  | _, _, _, .cons a b, r, h => by
    cases r with
    | cons r1 r2 =>
      unfold flatDs at h
      obtain ⟨h1, h2⟩ := Bool.and_eq_true_iff.mp h
      obtain ⟨as, q1, n1⟩ := RV.reads hK I a r1 h1
      obtain ⟨bs, q2, n2⟩ := RVs.reads hK I b r2 h2
      unfold pyRs
      exact ⟨_, ReadsAll.cons q1 q2, by unfold PyData.hasDictAll; rw [n1, n2]; rfl⟩
end
theorem scal_reads {d : D} {v : V} {u : Value} (rv : RV T G H d v) (r : RelV v u) (h : scalD d = true) : Reads s.heap u (pyR d) [] := by
  cases rv with
  | non => cases r; unfold pyR; exact Reads.none
  | bl b => cases r; unfold pyR; exact Reads.bool b
  | int i => obtain ⟨t, rfl⟩ := r; unfold pyR; exact Reads.int i t
  | str x => obtain ⟨t, rfl⟩ := r; unfold pyR; exact Reads.str x t
  | _ => cases h
theorem key_reads {k : Key} {v : Value} (h : keyIs k v = true) : Reads s.heap v (keyP k) [] := by
  rcases keyIs_shape h with ⟨i, t, rfl, rfl⟩ | ⟨x, t, rfl, rfl⟩
  · exact Reads.int i t
  · exact Reads.str x t
theorem pairs_keys {P : Program} {w : World} : ∀ {es : List DictEntry} {vs : List (Key × Value)}, Pairs (mixKind P w) es vs → ReadsAll s.heap (es.map (·.key)) (vs.map fun p => keyP p.1) []
  | _, _, .nil => ReadsAll.nil
  | _, _, .cons h _ t => ReadsAll.cons (as := []) (bs := []) (key_reads h) (pairs_keys t)
theorem pairs_vals {P : Program} {w : World} : ∀ {es : List DictEntry} {vs : List (Key × Value)}, Pairs (mixKind P w) es vs → es.map (·.val) = vs.map (·.2)
  | _, _, .nil => rfl
  | _, _, .cons _ e t => by
    rw [List.map_cons, List.map_cons, pairs_vals t, e]
theorem scals_reads : ∀ {ds : List D} {vs : List V} {us : List Value}, RVs T G H ds vs → Vals vs us → ds.all scalD = true → ReadsAll s.heap us (pyRs ds) []
  | _, _, _, .nil, .nil, _ => by unfold pyRs; exact ReadsAll.nil
  | _, _, _, .cons a b, .cons r t, h => by
    rw [List.all_cons] at h
    obtain ⟨h1, h2⟩ := Bool.and_eq_true_iff.mp h
    unfold pyRs
    exact ReadsAll.cons (as := []) (bs := []) (scal_reads a r h1) (scals_reads b t h2)
/-- what repr takes: data without dicts, or a dict of scalars -/
def showD : D → Bool
  | .dic _ vs => vs.all scalD
  | d => flatD d
theorem kv_split : ∀ {ks : List Key} {xs : List V} {vs : List (Key × Value)}, ks.length = xs.length → KV (ks.zip xs) vs → vs.map (fun p => keyP p.1) = ks.map keyP ∧ Vals xs (vs.map (·.2))
  | [], [], _, _, r => by
    have r : KV ([] : List (Key × V)) _ := r
    unfold KV at r
    cases r
    exact ⟨rfl, .nil⟩
  | k :: ks, x :: xs, vs, hl, r => by
    have r : KV ((k, x) :: ks.zip xs) vs := r
    unfold KV at r
    cases r with
    | cons h t =>
      obtain ⟨h1, h2⟩ := h
      obtain ⟨a, b⟩ := kv_split (ks := ks) (xs := xs) (Nat.succ.inj hl) t
      refine ⟨?_, .cons h2 b⟩
      rw [List.map_cons, List.map_cons, a, ← h1]
  | [], _ :: _, _, hl, _ => nomatch hl
  | _ :: _, [], _, hl, _ => nomatch hl
theorem zip_maps {α β γ : Type} (f : α → γ) (g : β → γ) : ∀ (as : List α) (bs : List β), as.length = bs.length → ((as.map f).zip (bs.map g)).map (·.1) = as.map f ∧ ((as.map f).zip (bs.map g)).map (·.2) = bs.map g
  | [], [], _ => ⟨rfl, rfl⟩
  | a :: as, b :: bs, h => by
    obtain ⟨x, y⟩ := zip_maps f g as bs (Nat.succ.inj h)
    simp only [List.map_cons, List.zip_cons_cons, x, y, and_self]
  | [], _ :: _, h => nomatch h
  | _ :: _, [], h => nomatch h
theorem pyRs_map : ∀ ds : List D, pyRs ds = ds.map pyR
  | [] => by unfold pyRs; rfl
  | d :: ds => by unfold pyRs; rw [pyRs_map ds]; rfl
theorem show_reads (hK : X.K = T.K) (I : Inv X pins σ H s) {d : D} {v : V} {u : Value} (rv : RV T G H d v) (r : RelV v u) (h : showD d = true) : ∃ as, Reads s.heap u (pyR d) as ∧ ((pyR d).hasDict = true → sysModules ∉ as) := by
  have plain : flatD d = true → ∃ as, Reads s.heap u (pyR d) as ∧ ((pyR d).hasDict = true → sysModules ∉ as) := fun hf => by
    obtain ⟨as, q, n⟩ := RV.reads hK I rv r hf
    exact ⟨as, q, PyData.noDict_hsm n⟩
  cases rv with
  | @dic a kvs ks xs ds g hx e l rr =>
    cases r
    obtain ⟨_, hsys, vs, kv, o, es, ep, ho, hex, hd, _, hp, _⟩ := (show ObjOk X.prog X.w H s.heap a (.dK kvs) from I.hok a _ hx)
    subst e
    obtain ⟨h1, h2⟩ := kv_split l kv
    have hl : ks.length = ds.length := by rw [l, rr.length]
    obtain ⟨z1, z2⟩ := zip_maps keyP pyR ks ds hl
    have k1 := pairs_keys (s := s) hp
    have k2 := scals_reads (s := s) rr h2 h
    unfold pyR
    refine ⟨_, Reads.dict (as := []) (bs := []) ho hex.1 hd ?_ ?_, fun _ hm => ?_⟩
    · rw [pyRs_map, z1, ← h1]; exact k1
    · rw [pyRs_map, z2, pairs_vals hp, ← pyRs_map]; exact k2
    · have e : sysModules = a := by simpa using hm
      rw [e] at hsys
      simp at hsys
  | non => exact plain h
  | bl _ => exact plain h
  | int _ => exact plain h
  | str _ => exact plain h
  | ty _ => exact plain h
  | ref _ => exact plain h
  | tup _ _ _ => exact plain h
  | tupp _ _ _ _ _ _ => exact plain h
  | lst _ _ _ _ => exact plain h
  | frl _ _ _ => exact plain h
  | obj _ _ _ _ => exact plain h
  | exc _ _ _ _ => exact plain h
def reprO : OL := fun ds G Q => match ds with
  | [x] => showD x = true ∧ (pyR x).showable = true ∧ (pyR x).shown.length ≤ sizeLine ∧ (pyR x).depth ≤ 60 ∧ Q (.str (pyR x).shown) G
  | _ => False
def rRepr (T : Tb) : List V → Hp → VK → Prop := fun vs H Q => ∃ d v G, vs = [v] ∧ RV T G H d v ∧ RH T G H ∧ showD d = true ∧ (pyR d).showable = true ∧ (pyR d).shown.length ≤ sizeLine ∧ (pyR d).depth ≤ 60 ∧ Q (.str (pyR d).shown) H
theorem call_reprD (hK : X.K = T.K) (hg : X.A.guards = some []) (hu : X.A.units + 64 < cLine) : CallR X (.builtin "repr") (rRepr T) := by
  intro pins s σ H xs us Q I r h
  obtain ⟨d, v, G, rfl, rv, rh, h1, h2, h3, h4, q⟩ := h
  obtain ⟨u, rfl, ru⟩ := vals1 r
  have byRef : ∀ a, u = .ref a → wpAny (model X.prog X.w) X.A (call (.builtin "repr") [u]) (EP X pins σ Q) X.xe s := fun a e => by
    subst e
    obtain ⟨as, rd, hs⟩ := show_reads hK I rv ru h1
    refine repr_of_reads' rd h2 hs hg (by omega) (fun _ _ e => e) (fun h' u tk kk => ?_) h3
    exact ⟨.str _, H, I.kept kk, ⟨_, rfl⟩, q⟩
  cases rv with
  | non =>
    cases ru
    unfold pyR PyData.shown at q
    exact PySem.P.repr_of_none ⟨.str _, H, I.tok _, ⟨_, rfl⟩, q⟩
  | bl b =>
    cases ru
    unfold pyR PyData.shown at q
    exact PySem.P.repr_of_bool ⟨.str _, H, I.tok _, ⟨_, rfl⟩, q⟩
  | int i =>
    obtain ⟨t, rfl⟩ := ru
    unfold pyR PyData.shown at q
    unfold pyR PyData.showable at h2
    exact PySem.P.repr_of_int (of_decide_eq_true h2) ⟨.str _, H, I.tok _, ⟨_, rfl⟩, q⟩
  | str x =>
    obtain ⟨t, rfl⟩ := ru
    unfold pyR PyData.shown at q h3
    exact PySem.P.repr_of_str ⟨.str _, H, I.tok _, ⟨_, rfl⟩, q⟩ h3
  | ty n => unfold showD flatD at h1; cases h1
  | ref a => unfold showD flatD at h1; cases h1
  | tup _ _ _ => exact byRef _ ru
  | tupp _ _ _ _ _ _ => exact byRef _ ru
  | lst _ _ _ _ => exact byRef _ ru
  | frl _ _ _ => exact byRef _ ru
  | dic _ _ _ _ _ => exact byRef _ ru
  | obj _ _ _ _ => unfold showD flatD at h1; cases h1
  | exc _ _ _ _ => unfold showD flatD at h1; cases h1
theorem ci_repr : CallI T (rRepr T) reprO := by
  intro G H ds vs Q Qv rh r q k
  rcases r with _ | ⟨rx, _ | ⟨_, _⟩⟩
  · exact False.elim q
  · obtain ⟨h1, h2, h3, h4, q⟩ := q
    exact ⟨_, _, G, rfl, rx, rh, h1, h2, h3, h4, k _ _ G H (.str _) rh (Keep.refl _ _) q⟩
  · exact False.elim q
end
/-! ### texts -/
section
variable {T : Tb} {X : Cx} {W : WX} {tg e a b o : Expr} {es : List Expr} {te ta tb to : TEd} {u : TAd} {pos p apos : Pos}
def wiStr (te : TEd) : TId := fun env G Q Ex => te env G (fun d G1 => ∃ z, d = .str z ∧ z.length ≤ sizeLine ∧ Q (strD z) always G1) Ex
theorem strD_len (z : Str) : (strD z).length = z.length := by unfold strD; simp [Str.length]
theorem qi_str (he : QE T X W e te) : QI T X W tg e (wiStr te) :=
  ⟨PI.imp (pi_str he.pe) fun σ H R ⟨env, G, Q, Ex, rs, rh, ex, q, k⟩ => intoE rs rh ex q fun d v G1 H1 rd rh1 k1 ⟨z, e, hz, q1⟩ => by
    subst e
    cases rd
    refine ⟨z, rfl, k _ _ always _ _ rh1 k1 ⟨by rw [strD_len]; exact hz, fun G H _ _ _ i hi => ?_, fun G H _ rh' _ i d x H' hd hy => ?_, fun G H _ _ _ i hi => ?_⟩ q1⟩
    · rw [strD_len] at hi
      exact hi
    · obtain ⟨e1, c, hc, e2⟩ := hy
      subst e1 e2
      have e : strD z = z.cps.toList.map fun c => D.str ⟨#[c]⟩ := rfl
      rw [e, List.getElem?_map] at hd
      have hc' : z.cps.toList[i]? = some c := by rw [Array.getElem?_toList]; exact hc
      rw [hc'] at hd
      cases hd
      exact ⟨.str _, rh', Keep.refl _ _⟩
    · rw [strD_len] at hi
      exact hi⟩
/-- one sign in a text -/
def inSO : O2 := fun x y G Q => ∃ c z, x = .str ⟨#[c]⟩ ∧ y = .str z ∧ Q (.bl (decide (c ∈ z.cps.toList))) G
def notInSO : O2 := fun x y G Q => ∃ c z, x = .str ⟨#[c]⟩ ∧ y = .str z ∧ Q (.bl (!decide (c ∈ z.cps.toList))) G
theorem oi_inS : OpI T (fun x y H Q => ∃ (c : Nat) (z : Str), x = .str ⟨#[c]⟩ ∧ y = .str z ∧ Q (.bl (decide (c ∈ z.cps.toList))) H) inSO := by
  intro G H x y v u Q Qv rh rx ry ⟨c, z, e1, e2, q⟩ k
  subst e1 e2
  cases rx
  cases ry
  exact ⟨c, z, rfl, rfl, k _ _ G H (.bl _) rh (Keep.refl _ _) q⟩
theorem oi_notInS : OpI T (fun x y H Q => ∃ (c : Nat) (z : Str), x = .str ⟨#[c]⟩ ∧ y = .str z ∧ Q (.bl (!decide (c ∈ z.cps.toList))) H) notInSO := by
  intro G H x y v u Q Qv rh rx ry ⟨c, z, e1, e2, q⟩ k
  subst e1 e2
  cases rx
  cases ry
  exact ⟨c, z, rfl, rfl, k _ _ G H (.bl _) rh (Keep.refl _ _) q⟩
def isBO : O2 := fun x y G Q => ∃ a b, x = .bl a ∧ y = .bl b ∧ Q (.bl (decide (a = b))) G
def notBO : O2 := fun x y G Q => ∃ a b, x = .bl a ∧ y = .bl b ∧ Q (.bl (!decide (a = b))) G
theorem oi_isB : OpI T rIsB isBO := by
  intro G H x y v u Q Qv rh rx ry ⟨a, b, e1, e2, q⟩ k
  subst e1 e2
  cases rx
  cases ry
  exact ⟨a, b, rfl, rfl, k _ _ G H (.bl _) rh (Keep.refl _ _) q⟩
theorem oi_notB : OpI T rNotB notBO := by
  intro G H x y v u Q Qv rh rx ry ⟨a, b, e1, e2, q⟩ k
  subst e1 e2
  cases rx
  cases ry
  exact ⟨a, b, rfl, rfl, k _ _ G H (.bl _) rh (Keep.refl _ _) q⟩
def strsD : List D → Option (List Str)
  | [] => some []
  | .str x :: r => (strsD r).map (x :: ·)
  | _ :: _ => none
theorem strs_rv {G : GH} {H : Hp} : ∀ {ds : List D} {vs : List V} {ys : List Str}, RVs T G H ds vs → strsD ds = some ys → vs = ys.map V.str
  | [], _, _, .nil, h => by cases h; rfl
  | d :: ds, _, ys, .cons a b, h => by
    cases d with
    | str x =>
      unfold strsD at h
      cases e : strsD ds with
      | none => rw [e] at h; cases h
      | some cs =>
        rw [e] at h
        cases h
        cases a
        rw [strs_rv b e]
        rfl
    | _ => cases h
/-- a method of a text -/
abbrev OM := D → List D → GH → DK → Prop
def MtI (T : Tb) (ty : PySem.W.Frag → V → Hp → Prop) (r0 : V → List V → Hp → VK → Prop) (o : OM) : Prop := ∀ G H x ds v vs (Q : DK) (Qv : VK), RH T G H → RV T G H x v → RVs T G H ds vs → o x ds G Q →
  (∀ d w G' H', RV T G' H' d w → RH T G' H' → Keep G H G' H' → Q d G' → Qv w H') → r0 v vs H Qv
def wM (o : OM) (to : TEd) (t : TAd) : TEd := fun env G Q Ex => to env G (fun x G1 => t env G1 (fun ds G2 => o x ds G2 Q) Ex) Ex
/-- a method of texts: the receiver is one -/
def wMS (o : OM) (to : TEd) (t : TAd) : TEd := fun env G Q Ex => to env G (fun x G1 => (∃ z, x = .str z) ∧ t env G1 (fun ds G2 => o x ds G2 Q) Ex) Ex
theorem q_bmS {name : Str} {id : String} {r0 : V → List V → Hp → VK → Prop} {om : OM} {cpos : Pos} (h : PE X (.Call (.Attribute o name apos) (e :: es) [] cpos) (tBM X.K "str" r0 (liftE T W to) (liftA T W u))) (mi : MtI T (fun K v H => tyV K "str" v H) r0 om) : QE T X W (.Call (.Attribute o name apos) (e :: es) [] cpos) (wMS om to u) :=
  QE.of h fun env G σ H Q Ex Qv rs rh ex q k => intoE rs rh ex q fun x v G1 H1 rx rh1 k1 ⟨⟨z, ez⟩, q1⟩ => by
    subst ez
    cases rx
    exact ⟨rfl, intoA (rs.keep k1) rh1 (ex.keep k1) q1 fun ds vs G2 H2 rds rh2 k2 q2 => mi G2 H2 _ ds _ vs Q Qv rh2 (.str z) rds q2 fun d w G' H' rd rh3 k3 q3 => k d w G' H' rd rh3 ((k1.trans k2).trans k3) q3⟩
def joinO : OM := fun x ds G Q => match x, ds with
  | .str a, [l] => ∃ xs ys, topD G l = .lst xs ∧ strsD xs = some ys ∧ (ys.map (·.length)).sum + ys.length * a.length ≤ 16777216 ∧ Q (.str (Txt.join a ys)) G
  | _, _ => False
theorem mi_join {K : PySem.W.Frag} (hK : K = T.K) : MtI T (fun K v H => tyV K "str" v H) (fun x xs H Q => ∃ a p, ∃ ys : List Str, x = .str a ∧ xs = [.ref p] ∧ (SqL K H p (ys.map V.str) ∨ SqT K H p (ys.map V.str)) ∧
    (ys.map (·.length)).sum + ys.length * a.length ≤ 16777216 ∧ Q (.str (Txt.join a ys)) H) joinO := by
  intro G H x ds v vs Q Qv rh rx rds q k
  cases rx with
  | str a =>
    rcases rds with _ | ⟨rl, _ | ⟨_, _⟩⟩
    · exact False.elim q
    · obtain ⟨xs, ys, e1, e2, h, q⟩ := q
      obtain ⟨p, us, rfl, hx, r⟩ := topD_lst rh rl e1
      have := strs_rv r e2
      subst this
      exact ⟨a, p, ys, rfl, rfl, .inl (SqL.of hx), h, k _ _ G H (.str _) rh (Keep.refl _ _) q⟩
    · exact False.elim q
  | _ => cases ds <;> exact False.elim q
/-! ### methods of lists that change -/
def wML (o : Addr → List D → List D → GH → DK → Prop) (to : TEd) (t : TAd) : TEd := fun env G Q Ex => to env G (fun x G1 => ∃ a xs0, x = .ref a ∧ G1 a = some (.lst xs0) ∧ t env G1 (fun ds G2 => ∃ xs, G2 a = some (.lst xs) ∧ o a xs ds G2 Q) Ex) Ex
def appendO : Addr → List D → List D → GH → DK → Prop := fun a xs ds G Q => ∃ d, ds = [d] ∧ xs.length < sizeLine ∧ Q .non (gset G a (.lst (xs ++ [d])))
theorem q_append {cpos : Pos} (h : PE X (.Call (.Attribute o "append" apos) [e] [] cpos) (tBM X.K "list" rAppend (liftE T W to) (liftA T W u))) : QE T X W (.Call (.Attribute o "append" apos) [e] [] cpos) (wML appendO to u) :=
  QE.of h fun env G σ H Q Ex Qv rs rh ex q k => intoE rs rh ex q fun x v G1 H1 rx rh1 k1 ⟨a, xs0, ez, g0, q1⟩ => by
    subst ez
    cases rx
    obtain ⟨vs0, hx0, _, _⟩ := rh1 a _ g0
    refine ⟨.inl ⟨rfl, vs0, SqL.of hx0⟩, intoA (rs.keep k1) rh1 (ex.keep k1) q1 fun ds vs G2 H2 rds rh2 k2 ⟨xs, g2, d, ed, hl, q2⟩ => ?_⟩
    subst ed
    obtain ⟨us, hu, lu, ru⟩ := rh2 a _ g2
    rcases rds with _ | ⟨rd, _ | ⟨_, _⟩⟩
    rename_i v
    refine ⟨a, us, v, rfl, rfl, hu, by rw [← ru.length]; exact hl, k _ _ _ _ .non (rh2.put (d := .lst (xs ++ [d])) g2 ⟨us ++ [v], upd_same, by rw [List.length_append, List.length_singleton]; omega, (ru.append (.cons rd .nil)).keep (Keep.put g2)⟩) ((k1.trans k2).trans (Keep.put g2)) q2⟩
end
end DL
set_option Elab.async false
set_option linter.all false
set_option maxRecDepth 100000
set_option maxHeartbeats 4000000
namespace DL
open PySem PySem.Spec PyProof.Rows L2

/-! ### the end of a law's row -/
theorem guards_caller : callerA.guards = some [] := by
  first
    | rfl
    | decide
/-- the script as data -/
def scriptD (ns : List Int) : D := .frl (ns.map D.int)
theorem ints_rv {T : Tb} {G : GH} {H : Hp} : ∀ ns : List Int, RVs T G H (ns.map D.int) (ns.map V.int)
  | [] => .nil
  | n :: ns => .cons (.int n) (ints_rv ns)
/-- what the law's def promises: True for every script -/
def spLaw : DSp := fun ds G Q _ => ∃ ns : List Int, ds = [scriptD ns] ∧ ns.length ≤ 63 ∧ (∀ a, G a = none) ∧ ∀ G', Q (.bl true) G'
section
variable {T : Tb} {P : Program} {w : World} {mg mb : Str → Option Value} {k : Nat} {fa a : Addr} {fd : FuncData} {x : Str} {s₁ : Shared} {vs : List Value} {ns : List Int}
theorem lawG_at (H : Hp) (KX : T.K.In s₁.heap) (hns : s₁.heap.Ns mainGlobals mg) (hb : s₁.heap.Ns builtinsNs mb) (hbb : ∀ x : Str, x ≠ "__name__" → mb x = bootBuiltins x) (hlim : s₁.heap.NoLimit) (hg : s₁.gens = #[])
    (hd : s₁.heap.get? a = some { cls := .type "list", data := .seq vs.toArray }) (hl : ns.length ≤ 63) (hr : RoomG k callerA)
    (F : ∀ base : Heap, T.K.In base → base.Ns mainGlobals mg → FnG P w T.K mg base (L2.CX P w) k fa fd [x] (liftSp T spLaw)) (hbind : ∀ (s : Shared) (u : Value), BindsTo s fd ⟨[u], []⟩ [(x, u)])
    (only : ∀ b, H b = none ∨ (b = a ∧ ∃ o xs, H b = some (.frz o (.lst xs)))) (noK : H a ≠ none → T.K.lookup a = none) (hok : HOk P w H s₁.heap) (fz : FzL T.K (fun _ => none) H a (ns.map V.int)) :
    codeAny (model P w) callerA (.call (.ref fa) ⟨[.ref a], []⟩) (fun r s' => r = .ok (.ret (.bool true)) ∧ OldK s₁.heap s'.heap ∧ s'.os = s₁.os ∧ AllBare s'.gens) s₁ := by
  have atA : ∀ {b}, H b ≠ none → b = a := fun {b} h => (only b).elim (fun z => absurd z h) fun z => z.1
  have hid : ∀ {b : Addr} {o : Obj}, s₁.heap.get? b = some o → b ≠ a ∨ H a = none → (hidT s₁.heap H).get? b = some o := fun {b o} e h => hidT_get e (by
    rcases only b with z | z
    · exact z
    · rcases h with h | h
      · exact absurd z.1 h
      · rw [z.1]; exact h)
  have nsIn : ∀ {b : Addr} {m : Str → Option Value}, s₁.heap.Ns b m → (hidT s₁.heap H).Ns b m := fun {b m} h => by
    obtain ⟨o, es, ep, e, d, r⟩ := h
    refine ⟨o, es, ep, hid e (.inl ?_), d, r⟩
    rintro rfl
    rw [hd] at e
    cases e
    cases d
  have KB : T.K.In (hidT s₁.heap H) := fun b o e => hid (KX b o e) (by
    by_cases h : H a = none
    · exact .inr h
    · refine .inl ?_
      rintro rfl
      rw [noK h] at e
      cases e)
  have lim : (hidT s₁.heap H).NoLimit := let ⟨mc, h1, h2⟩ := hlim; ⟨mc, nsIn h1, h2⟩
  have e0 : Env0 P w T.K mg (hidT s₁.heap H) callerA [] s₁ H :=
    { frames := rfl, mod := ⟨KB, nsIn hns, ⟨mb, nsIn hb, hbb⟩, lim⟩, bs := fun b o e => of_hidT e, bsz := Nat.le_of_eq (hidT_size _ _), funs := trivial, frf := fun b h => absurd (show b ∈ ([] : List Addr) from h) (by simp), hok := hok, bare := .of_eq hg }
  have want : liftSp T spLaw [.ref a] H (fun v _ => v = .bl true) (fun _ _ _ => False) := by
    refine ⟨[scriptD ns], fun _ => none, fun d _ => d = .bl true, fun _ _ _ => False, .cons (.frl fz (by rw [List.length_map, sizeLine_eq]; omega) (ints_rv ns)) .nil, (fun b o e => nomatch e), ⟨ns, rfl, hl, fun _ => rfl, fun _ => rfl⟩, ?_, fun _ _ _ _ _ _ z => z.elim⟩
    rintro v H' ⟨d, G', r, _, _, e⟩
    subst e
    cases r
    rfl
  refine codeAny_mono ((F _ KB (nsIn hns)).run callerA [] s₁ H ⟨[.ref a], []⟩ [.ref a] [.ref a] _ _ hr e0 (hbind s₁ (.ref a)) (.cons rfl .nil) want) fun r s' h => ?_
  rcases r with er | (_ | _ | _ | u)
  · obtain ⟨_, _, _, _, _, _, _, _, _, _, _, _, z⟩ := h
    exact z.elim
  · exact False.elim h
  · exact False.elim h
  · exact False.elim h
  obtain ⟨v, H', os, bare, un, hok', r', q⟩ := h
  have q : v = .bl true := q
  subst q
  obtain rfl : u = Value.bool true := r'
  refine ⟨rfl, OldK.of_keep fun b o e => ?_, os, bare⟩
  rcases only b with z | ⟨_, ob, xs, z⟩
  · exact un.keep b o e z (fun h => absurd (show b ∈ ([] : List Addr) from h) (by simp)) (by simp)
  · have e1 := (hok b _ z).1
    have e2 := (hok' b _ (un.frzs b ob _ z)).1
    rw [e] at e1
    cases e1
    exact e2
theorem lawG_call (KX : T.K.In s₁.heap) (hns : s₁.heap.Ns mainGlobals mg) (hb : s₁.heap.Ns builtinsNs mb) (hbb : ∀ x : Str, x ≠ "__name__" → mb x = bootBuiltins x) (hlim : s₁.heap.NoLimit) (hg : s₁.gens = #[])
    (hd : s₁.heap.get? a = some { cls := .type "list", data := .seq vs.toArray }) (hi : IntsAre vs ns) (hl : ns.length ≤ 63) (hr : RoomG k callerA)
    (F : ∀ base : Heap, T.K.In base → base.Ns mainGlobals mg → FnG P w T.K mg base (L2.CX P w) k fa fd [x] (liftSp T spLaw)) (hbind : ∀ (s : Shared) (u : Value), BindsTo s fd ⟨[u], []⟩ [(x, u)]) :
    codeAny (model P w) callerA (.call (.ref fa) ⟨[.ref a], []⟩) (fun r s' => r = .ok (.ret (.bool true)) ∧ OldK s₁.heap s'.heap ∧ s'.os = s₁.os ∧ AllBare s'.gens) s₁ := by
  have rv := vals_ints hi
  have sz : ns.length ≤ sizeLine := by rw [sizeLine_eq]; omega
  cases hk : T.K.lookup a with
  | some o =>
    have e := KX a o hk
    rw [hd] at e
    cases e
    exact lawG_at (fun _ => none) KX hns hb hbb hlim hg hd hl hr F hbind (fun _ => .inl rfl) (fun z => absurd rfl z) (fun b u z => nomatch z)
      (.inr ⟨_, vs.toArray, _, hk, rfl, rfl, rfl, by rw [List.size_toArray, hi.length]; exact sz, by simpa using rv⟩)
  | none =>
    have atIs : (fun b => if b = a then some (HO.frz { cls := .type "list", data := .seq vs.toArray } (.lst (ns.map V.int))) else none : Hp) a = some (.frz { cls := .type "list", data := .seq vs.toArray } (.lst (ns.map V.int))) := if_pos rfl
    refine lawG_at (fun b => if b = a then some (.frz { cls := .type "list", data := .seq vs.toArray } (.lst (ns.map V.int))) else none) KX hns hb hbb hlim hg hd hl hr F hbind (fun b => ?_) (fun _ => hk) (fun b u z => ?_) (.inl ⟨rfl, _, atIs⟩)
    · by_cases h : b = a
      · subst h; exact .inr ⟨rfl, _, _, atIs⟩
      · exact .inl (if_neg h)
    · by_cases h : b = a
      · subst h
        rw [atIs] at z
        cases z
        exact ⟨hd, by rw [List.length_map]; exact sz, vs, _, rv, hd⟩
      · have z' : (none : Option HO) = some u := (if_neg h).symm.trans z
        cases z'
end
theorem lawG_walk {l : PySem.W.OpenLaw} {k : Nat} {q : Program} {loose : List Str} {XP : (Str → Option Value) → Heap → Prop} {YP : World → Heap → Prop} {d : DefRec} {K : Params → PySem.W.Frag} {cls : Params → Nat → Addr} {flds : Nat → List Str} {x : Str}
    (hn : l.most = some 63) (hdf : d.params.defaults = []) (hr : RoomG k callerA) (hY : ∀ (w : World) (h : Heap), YP w h → (K w.params).In h)
    (F : ∀ (w : World) (mg : Str → Option Value) (fa : Addr) (h : Heap), (K w.params).In h → h.Ns mainGlobals mg → mg d.name = some (.ref fa) →
      ∃ fd : FuncData, (∀ (s : Shared) (u : Value), BindsTo s fd ⟨[u], []⟩ [(x, u)]) ∧
        ∀ base : Heap, (K w.params).In base → base.Ns mainGlobals mg → FnG l.prog w (K w.params) mg base (L2.CX l.prog w) k fa fd [x] (liftSp ⟨K w.params, cls w.params, flds⟩ spLaw)) :
    PySem.W.WalkO q loose XP YP l.row.toRowW d [] (fun f vs => PySem.call f vs) := by
  refine Att.attach_call hn hdf fun w s₀ s₁ mg mb fa o pm cd doc a vs ns G Y ho hd hcd hmg hobj hints hlen hg => ?_
  have KX := hY w _ Y
  obtain ⟨fd, hb, hF⟩ := F w mg fa _ KX G.T.g hmg
  exact lawG_call (T := ⟨K w.params, cls w.params, flds⟩) KX G.T.g G.T.b G.T.builtins G.T.nolimit hg hobj hints hlen hr hF hb
end DL
set_option Elab.async false
set_option linter.all false
set_option maxRecDepth 100000
set_option maxHeartbeats 4000000
namespace DL
open PySem PySem.Spec PyProof.Rows L2
/-- a def that may be called -/
structure Cal (T : Tb) (P : Program) (w : World) (mg : Str → Option Value) (base : Heap) (x : Str) (k : Nat) (n : Nat) (sp : DSp) : Prop where
  ex : ∃ f fd ps, ps.length = n ∧ FnG P w T.K mg base (L2.CX P w) k f fd ps (liftSp T sp) ∧ mg x = some (.ref f) ∧ PySem.W.keepIn T.K (.ref f) = true ∧ Binds T.K fd ps []
section
variable {T : Tb} {X : Cx} {W : WX} {k n : Nat} {sp : DSp} {x : Str} {p pos : Pos} {e : Expr} {es : List Expr} {u : TAd} {te : TEd}
theorem qcl (tk : Takes X W) (hK : X.K = T.K) (C : Cal T X.prog X.w X.mg X.base x k n sp) (hr : RoomG k X.A) (hg : Gl X x)
    (ha : QA T X W (e :: es) u) (hdb : (x == ("__debug__" : Str)) = false := by decide) (he : starEach (e :: es) X.env = (false, eval e X.env) :: starEach es X.env := by rfl) (hpl : (backTo pos (starEach es X.env)).any (·.1) = false := by rfl) :
    QE T X W (.Call (.Name x p) (e :: es) [] pos) (wFn sp u) := by
  obtain ⟨f, fd, ps, _, F, hm, hk, hb⟩ := C.ex
  rw [← hK] at F hk hb
  exact q_call tk F hr hg hm hk hb ha hdb he hpl
theorem qcl0 (tk : Takes X W) (hK : X.K = T.K) (C : Cal T X.prog X.w X.mg X.base x k n sp) (hr : RoomG k X.A) (hg : Gl X x) (hdb : (x == ("__debug__" : Str)) = false := by decide) :
    QE T X W (.Call (.Name x p) [] [] pos) (wFn sp wNil) := by
  obtain ⟨f, fd, ps, _, F, hm, hk, hb⟩ := C.ex
  rw [← hK] at F hk hb
  exact q_call0 tk F hr hg hm hk hb hdb
theorem q_bltT {n' : String} (hg : Gl X x) (hm : X.mg x = none) (hv : bootBuiltins x = some (.type n')) (hn : x ≠ "__name__" := by decide) (hd : (x == ("__debug__" : Str)) = false := by decide) : QE T X W (.Name x pos) (wC (.ty n')) :=
  qc (pe_bltn (v := .ty n') hg hm hv rfl hn hd) fun _ _ => .ty n'
end
end DL
set_option Elab.async false
set_option linter.all false
set_option maxRecDepth 100000
set_option maxHeartbeats 4000000
namespace DL
open PySem PySem.Spec PyProof.Rows L2
/-! ### a sequence times an int -/
def rMulS : R2 := fun x y H Q => ∃ z k, x = .str z ∧ y = .int k ∧ MulOk z k ∧ Q (.str (Txt.mul z k)) H
theorem op_mulS {X : Cx} : OpR X (binaryOp .Mult) rMulS := by
  intro pins s σ H x y v u Q I rx ry ⟨z, k, ex, ey, ok, q⟩
  subst ex ey
  obtain ⟨t, rfl⟩ := rx
  obtain ⟨t2, rfl⟩ := ry
  exact SB.mul ok fun t' kk => ⟨.str _, H, I.tok _, ⟨_, rfl⟩, q⟩
def rRepW (K : PySem.W.Frag) : R2 := fun x y H Q => ∃ l k xs, x = .ref l ∧ y = .int k ∧ SqT K H l xs ∧ xs ≠ [] ∧ 2 ≤ k ∧ xs.length * k.toNat ≤ 1000000 ∧ ∀ p, H p = none → Q (.ref p) (upd H p (.tup (List.replicate k.toNat xs).flatten))
theorem op_repW {X : Cx} : OpR X (binaryOp .Mult) (rRepW X.K) := by
  intro pins s σ H x y v u Q I rx ry ⟨l, k, xs, ex, ey, hT, hne, hk, hz, q⟩
  subst ex ey
  cases rx
  obtain ⟨t, rfl⟩ := ry
  obtain ⟨its, r, ⟨⟨cls, dd, data, sl⟩, ho, hc, n, hd⟩, hs⟩ := I.tuple hT
  simp only at hc hd
  subst hc hd
  have len : its.length = xs.length := r.length.symm
  have pos : 0 < xs.length := List.length_pos_iff.mpr hne
  have some1 : its.toArray.isEmpty = false := by
    cases its with
    | nil => exact absurd (show (0 : Nat) = xs.length from len) (by omega)
    | cons _ _ => rfl
  have size : its.toArray.size = xs.length := by rw [List.size_toArray]; exact len
  have kk : ((k.toNat : Nat) : Int) = k := Int.toNat_of_nonneg (by omega)
  have all : ((its.toArray.size : Nat) : Int) * k ≤ 1000000 := by
    rw [size, ← kk]
    have h := Int.ofNat_le.mpr hz
    rw [Int.natCast_mul] at h
    exact h
  have klt : k.toNat ≤ 1000000 := Nat.le_trans (Nat.le_mul_of_pos_left _ pos) hz
  have flat : ∀ {α : Type} (ys : List α), ys.length = xs.length → (List.replicate k.toNat ys).flatten.length ≤ sizeLine := fun ys e => by
    rw [PyProof.Rows.lm_len_rep_flat, e, Nat.mul_comm, sizeLine_eq]
    omega
  have d0 : (decide (k < -(2 ^ 63)) || decide (k ≥ 2 ^ 63)) = false := by
    have a : decide (k < -(2 ^ 63)) = false := decide_eq_false (by omega)
    have b : decide (k ≥ 2 ^ 63) = false := decide_eq_false (by omega)
    rw [a, b]; rfl
  have d1 : (its.toArray.isEmpty || k == 1) = false := by
    have a : (k == 1) = false := beq_eq_false_iff_ne.mpr (by omega)
    rw [some1, a]; rfl
  have d2 : (decide (k ≤ 0) || its.toArray.isEmpty) = false := by
    have a : decide (k ≤ 0) = false := decide_eq_false (by omega)
    rw [some1, a]; rfl
  have d4 : Builtin.Tuple.tupleTooMany (((its.toArray.size : Nat) : Int) * k) = false := by
    unfold Builtin.Tuple.tupleTooMany
    exact decide_eq_false (by rw [sizeLine_eq]; omega)
  have lands : EP X pins σ Q (Value.ref s.heap.objs.size) { s with heap := s.heap.push { cls := Value.type "tuple", data := Data.seq (List.foldl (fun x1 x2 => x1 ++ x2) #[] (List.replicate k.toNat its.toArray)) }, toks := s.toks } := by
    rw [size_rep]
    exact ⟨.ref s.heap.objs.size, _, I.laid (t' := s.toks) (o := .tup (List.replicate k.toNat xs).flatten) (fun b ob e => Heap.get?_push_of_some _ e) (Nat.le_refl _) ⟨flat xs rfl, _, r.rep k.toNat, IsTup.new _ _⟩, rfl, q _ (I.hok.fresh (Nat.le_refl _))⟩
  exact wpAny_binaryOp_repeat_ref (T := "tuple") (U := "int") (by decide) ⟨_, ho, rfl⟩ (fun s' => typeIs_int s' k t) noFill_tuple_mul F.fills_int_mul F.slot_int_rmul repeat_tuple
    F.slot_int_index.lookup (call_meets F.slot_int_rmul (typeIs_int s k t) F.entry_int_rmul (F.args_int_rmul_2 _ _) (int_rmul_tuple k t l its.toArray n dd sl)
      ⟨ho, rfl, ⟨_, ho, rfl⟩, call_meets F.slot_tuple_mul ⟨_, ho, rfl⟩ F.entry_tuple_mul (F.args_tuple_mul_2 _ _)
        (tuple_mulW l its.toArray n dd sl k t d0 d1 d2 (by omega) d4 (by rw [size_rep, List.size_toArray]; exact flat its len)) ⟨ho, lands⟩⟩)
theorem RVs.rep {T : Tb} {G : GH} {H : Hp} {ds : List D} {vs : List V} (r : RVs T G H ds vs) : ∀ n : Nat, RVs T G H (List.replicate n ds).flatten (List.replicate n vs).flatten
  | 0 => .nil
  | n + 1 => by
    rw [List.replicate_succ, List.replicate_succ, List.flatten_cons, List.flatten_cons]
    exact r.append (r.rep n)
def mulI (k : Int) (x : D) (G : GH) (Q : DK) : Prop := match x with
  | .int i => (CMulW i k ∨ CMul i k) ∧ Q (.int (i * k)) G
  | .lst ds => -(2 ^ 63) ≤ k ∧ k < 2 ^ 63 ∧ ds.length * k.toNat ≤ sizeLine ∧ Q (.lst (List.replicate k.toNat ds).flatten) G
  | .tup ds => ds ≠ [] ∧ 2 ≤ k ∧ ds.length * k.toNat ≤ 1000000 ∧ Q (.tup (List.replicate k.toNat ds).flatten) G
  | .str z => MulOk z k ∧ Q (.str (Txt.mul z k)) G
  | _ => False
def mulDO : O2 := fun x y G Q => match y with
  | .int k => mulI k x G Q
  | _ => False
def rMulD (K : PySem.W.Frag) : R2 := rOr (rI (fun i j => CMulW i j ∨ CMul i j) fun i j => .int (i * j)) (rOr rRep (rOr (rRepW K) rMulS))
theorem op_mulI {X : Cx} : OpR X (binaryOp .Mult) (rI (fun i j => CMulW i j ∨ CMul i j) fun i j => .int (i * j)) := by
  intro pins s σ H x y v u Q I rx ry ⟨i, j, e1, e2, c, q⟩
  rcases c with c | c
  · exact op_mulW pins s σ H x y v u Q I rx ry ⟨i, j, e1, e2, c, q⟩
  · exact op_mul pins s σ H x y v u Q I rx ry ⟨i, j, e1, e2, c, q⟩
theorem op_mulD {X : Cx} : OpR X (binaryOp .Mult) (rMulD X.K) := op_mulI.or (op_rep.or (op_repW.or op_mulS))
theorem oi_mulD {T : Tb} {K : PySem.W.Frag} (hK : K = T.K) : OpI T (rMulD K) mulDO := by
  intro G H x y v u Q Qv rh rx ry q k
  subst hK
  cases ry with
  | int j =>
    have q : mulI j x G Q := q
    cases rx with
    | int i => exact .inl ⟨i, j, rfl, rfl, q.1, k _ _ G H (.int _) rh (Keep.refl _ _) q.2⟩
    | lst g h l r =>
      rename_i p xs ds _
      obtain ⟨a, b, c, q⟩ := q
      have lz : (List.replicate j.toNat ds).flatten.length ≤ sizeLine := by rw [PyProof.Rows.lm_len_rep_flat, Nat.mul_comm]; exact c
      exact .inr (.inl ⟨_, j, _, rfl, rfl, h, a, b, by rw [← r.length]; exact c, fun p np => k _ _ G _ (.lst (rh.fresh np) upd_same lz ((r.rep _).keep (Keep.new np))) (rh.new np) (Keep.new np) q⟩)
    | tup h l r =>
      rename_i p xs ds _
      obtain ⟨a, b, c, q⟩ := q
      have lz : (List.replicate j.toNat ds).flatten.length ≤ sizeLine := by rw [PyProof.Rows.lm_len_rep_flat, Nat.mul_comm, sizeLine_eq]; omega
      refine .inr (.inr (.inl ⟨_, j, _, rfl, rfl, h.sq, fun e => a ?_, b, by rw [← r.length]; exact c, fun p np => k _ _ G _ (.tup ⟨rh.fresh np, .inl upd_same⟩ lz ((r.rep _).keep (Keep.new np))) (rh.new np) (Keep.new np) q⟩))
      have := r.length
      rw [e] at this
      exact List.eq_nil_of_length_eq_zero this
    | str z => exact .inr (.inr (.inr ⟨z, j, rfl, rfl, q.1, k _ _ G H (.str _) rh (Keep.refl _ _) q.2⟩))
    | _ => exact False.elim q
  | _ => exact False.elim q
/-! ### {k: v, ..} -/
def wPairs : List (TEd × TEd) → Ev → GH → (List (D × D) → GH → Prop) → DX → Prop
  | [], _, G, Q, _ => Q [] G
  | (tk, tv) :: r, env, G, Q, Ex => tk env G (fun x G1 => tv env G1 (fun y G2 => wPairs r env G2 (fun ps G3 => Q ((x, y) :: ps) G3) Ex) Ex) Ex
def keyD : D → Option Key
  | .int i => some (.inl i)
  | .str x => some (.inr x)
  | _ => none
def keysD : List (D × D) → Option (List Key)
  | [] => some []
  | (k, _) :: r => match keyD k, keysD r with
    | some a, some as => some (a :: as)
    | _, _ => none
inductive RPs (T : Tb) (G : GH) (H : Hp) : List (D × D) → List (V × V) → Prop
  | nil : RPs T G H [] []
  | cons {a b : D} {x y : V} {r : List (D × D)} {s : List (V × V)} : RV T G H a x → RV T G H b y → RPs T G H r s → RPs T G H ((a, b) :: r) ((x, y) :: s)
theorem keys_rv {T : Tb} {G : GH} {H : Hp} : ∀ {ps : List (D × D)} {vs : List (V × V)} {ks : List Key}, RPs T G H ps vs → keysD ps = some ks → vs.map (·.1) = ks.map kV ∧ ks.length = vs.length ∧ RVs T G H (ps.map (·.2)) (vs.map (·.2))
  | _, _, ks, .nil, h => by cases h; exact ⟨rfl, rfl, .nil⟩
  | _, _, ks, .cons (a := a) (b := b) (r := r) ra rb rr, h => by
    unfold keysD at h
    cases e1 : keyD a with
    | none => rw [e1] at h; simp at h
    | some k1 =>
      cases e2 : keysD r with
      | none => rw [e1, e2] at h; simp at h
      | some kr =>
        rw [e1, e2] at h
        cases h
        obtain ⟨i1, i2, i3⟩ := keys_rv rr e2
        refine ⟨?_, by rw [List.length_cons, List.length_cons, i2], .cons rb i3⟩
        rw [List.map_cons, List.map_cons, i1]
        congr 1
        cases ra with
        | int i => cases e1; rfl
        | str x => cases e1; rfl
        | _ => cases e1
theorem merge_zip : ∀ (ks : List Key) (xs : List V) (acc : List (Key × V)), (acc.map (·.1) ++ ks).Nodup → ks.length = xs.length → mergeK acc (ks.zip xs) = acc ++ ks.zip xs
  | [], xs, acc, _, _ => by
    show acc = acc ++ []
    rw [List.append_nil]
  | k :: ks, [], _, _, h => nomatch h
  | k :: ks, x :: xs, acc, hn, hl => by
    have hk : k ∉ acc.map (·.1) := fun hm => by
      have := (List.nodup_append.mp hn).2.2
      exact this k hm k List.mem_cons_self rfl
    have ep : putK acc k x = acc ++ [(k, x)] := by
      unfold putK
      rw [if_neg]
      intro h
      obtain ⟨kv, h1, h2⟩ := List.any_eq_true.mp h
      exact hk (List.mem_map.mpr ⟨kv, h1, of_decide_eq_true h2⟩)
    show mergeK (putK acc k x) (ks.zip xs) = acc ++ ((k, x) :: ks.zip xs)
    rw [ep, merge_zip ks xs (acc ++ [(k, x)]) (by rw [List.map_append]; simpa using hn) (Nat.succ.inj hl), List.append_assoc]
    rfl
structure QP (T : Tb) (X : Cx) (W : WX) (pos : Pos) (ks : List (Option Expr)) (vs : List Expr) (t : List (TEd × TEd)) : Prop where
  pp : PPs X pos ks vs (t.map fun p => (liftE T W p.1, liftE T W p.2))
section
variable {T : Tb} {X : Cx} {W : WX} {pos : Pos} {ks : List (Option Expr)} {vs : List Expr} {a b k v : Expr} {tk tv ta tb : TEd} {ps : List (TEd × TEd)}
theorem q_mulD (hK : X.K = T.K) (ha : QE T X W a ta) (hb : QE T X W b tb) : QE T X W (.BinOp a .Mult b pos) (wOp mulDO ta tb) := q_op op_mulD (oi_mulD hK) ha hb
theorem qp_nil : QP T X W pos [] [] [] := ⟨pps_nil⟩
theorem qp_cons (hk : QE T X W k tk) (hv : QE T X W v tv) (h : QP T X W pos ks vs ps) : QP T X W pos (some k :: ks) (v :: vs) ((tk, tv) :: ps) := ⟨pps_cons hk.pe hv.pe h.pp⟩
theorem intoP {σ : List (Option V)} {Ex : DX} {env : Ev} : ∀ (ps : List (TEd × TEd)) {G : GH} {H : Hp} {Q : List (D × D) → GH → Prop} {Qv : List (V × V) → Hp → Prop}, RS T G H env σ → RH T G H → ExOk T W G H σ Ex → wPairs ps env G Q Ex →
    (∀ ds vs G' H', ds.length = ps.length → RPs T G' H' ds vs → RH T G' H' → Keep G H G' H' → Q ds G' → Qv vs H') → tPairs (ps.map fun p => (liftE T W p.1, liftE T W p.2)) σ H Qv
  | [], G, H, Q, Qv, rs, rh, ex, q, kk => kk [] [] G H rfl .nil rh (Keep.refl _ _) q
  | (tk, tv) :: ps, G, H, Q, Qv, rs, rh, ex, q, kk => intoE rs rh ex q fun x xv G1 H1 rx rh1 k1 q1 => intoE (rs.keep k1) rh1 (ex.keep k1) q1 fun y yv G2 H2 ry rh2 k2 q2 =>
    intoP ps (rs.keep (k1.trans k2)) rh2 (ex.keep (k1.trans k2)) q2 fun ds vs G3 H3 hl rr rh3 k3 q3 => kk _ _ G3 H3 (congrArg (· + 1) hl) (.cons ((rx.keep k2).keep k3) (ry.keep k3) rr) rh3 ((k1.trans k2).trans k3) q3
theorem zip_keys : ∀ (vs : List (V × V)) (ks : List Key), vs.map (·.1) = ks.map kV → ks.length = vs.length → vs = (ks.zip (vs.map (·.2))).map fun kv => (kV kv.1, kv.2)
  | [], [], _, _ => rfl
  | [], _ :: _, _, h => nomatch h
  | _ :: _, [], _, h => nomatch h
  | (x, y) :: vs, k :: ks, h, hl => by
    have h1 := List.cons.inj h
    have e : x = kV k := h1.1
    rw [List.map_cons, List.zip_cons_cons, List.map_cons, ← zip_keys vs ks h1.2 (Nat.succ.inj hl), e]
/-- a display of distinct keys, not changed any more -/
def wDisp (ps : List (TEd × TEd)) : TEd := fun env G Q Ex => ∀ p, G p = none → wPairs ps env (gset G p (.dic [] [])) (fun prs G2 => G2 p = some (.dic [] []) ∧ ∃ ks, keysD prs = some ks ∧ ks.Nodup ∧ Q (.dic ks (prs.map (·.2))) (gdel G2 p)) Ex
/-- .. that may be changed -/
def wDispM (ps : List (TEd × TEd)) : TEd := fun env G Q Ex => ∀ p, G p = none → wPairs ps env (gset G p (.dic [] [])) (fun prs G2 => G2 p = some (.dic [] []) ∧ ∃ ks, keysD prs = some ks ∧ ks.Nodup ∧ Q (.ref p) (gset G2 p (.dic ks (prs.map (·.2))))) Ex
theorem disp_in {fin : Addr → List Key → List D → D} {gfin : Addr → GH → List Key → List D → GH} {σ : List (Option V)} {Ex : DX} {env : Ev} {G : GH} {H : Hp} {Q : D → GH → Prop} {Qv : VK} (hp15 : ps.length ≤ 15)
    (hfin : ∀ (p : Addr) (ks : List Key) (ds : List D) (G : GH) (H : Hp), RH T (gset G p (.dic ks ds)) H → RV T (gfin p G ks ds) H (fin p ks ds) (.ref p) ∧ RH T (gfin p G ks ds) H ∧ ∀ G1 H1, Keep G1 H1 (gset G p (.dic ks ds)) H → Keep G1 H1 (gfin p G ks ds) H)
    (rs : RS T G H env σ) (rh : RH T G H) (ex : ExOk T W G H σ Ex)
    (q : ∀ p, G p = none → wPairs ps env (gset G p (.dic [] [])) (fun prs G2 => G2 p = some (.dic [] []) ∧ ∃ ks, keysD prs = some ks ∧ ks.Nodup ∧ Q (fin p ks (prs.map (·.2))) (gfin p G2 ks (prs.map (·.2)))) Ex)
    (kk : ∀ d v G' H', RV T G' H' d v → RH T G' H' → Keep G H G' H' → Q d G' → Qv v H') : tDisp (ps.map fun p => (liftE T W p.1, liftE T W p.2)) σ H Qv := by
  intro p np
  have kn : Keep G H (gset G p (.dic [] [])) (upd H p (.dK [])) := Keep.newG np
  have rhn : RH T (gset G p (.dic [] [])) (upd H p (.dK [])) := rh.newG (d := .dic [] []) np ⟨[], upd_same, rfl, .nil⟩
  refine intoP ps (rs.keep kn) rhn (ex.keep kn) (q p (rh.fresh np)) fun ds vs G2 H2 hl rr rh2 k2 ⟨g2, kl, e1, nd, q2⟩ => ?_
  obtain ⟨xs0, hx0, hl0, _⟩ := rh2 p _ g2
  obtain ⟨m1, m2, m3⟩ := keys_rv rr e1
  refine ⟨hx0, kl.zip (vs.map (·.2)), zip_keys vs kl m1 m2, ?_, ?_⟩
  · rw [List.length_zip, List.length_map, m2, Nat.min_self]
    have : ds.length = vs.length := by
      have := m3.length
      simpa using this
    omega
  · have em : mergeK [] (kl.zip (vs.map (·.2))) = kl.zip (vs.map (·.2)) := merge_zip kl (vs.map (·.2)) [] nd (by rw [List.length_map]; exact m2)
    rw [em]
    have kp : Keep G2 H2 (gset G2 p (.dic kl (ds.map (·.2)))) (upd H2 p (.dK (kl.zip (vs.map (·.2))))) := Keep.put g2
    have rp : RH T (gset G2 p (.dic kl (ds.map (·.2)))) (upd H2 p (.dK (kl.zip (vs.map (·.2))))) := rh2.put (d := .dic kl (ds.map (·.2))) g2 ⟨vs.map (·.2), upd_same, by rw [List.length_map]; exact m2, m3.keep kp⟩
    obtain ⟨f1, f2, f3⟩ := hfin p kl (ds.map (·.2)) G2 _ rp
    exact kk _ _ _ _ f1 f2 (f3 _ _ ((kn.trans k2).trans kp)) q2
theorem gset_gdel {G : GH} {p : Addr} {o : DO} : gdel (gset G p o) p = gdel G p := by
  funext b
  unfold gdel gset
  split <;> rfl
theorem q_disp (hK : QP T X W pos ks vs ps) (hall : ks.all (·.isSome) = true := by rfl) (hl : ks.length = vs.length := by rfl) (h0 : ks ≠ [] := by exact List.cons_ne_nil _ _) (h15 : ks.length ≤ 15 := by decide) (hp : ps.length ≤ 15 := by decide) :
    QE T X W (.Dict ks vs pos) (wDisp ps) :=
  QE.of (pe_disp hK.pp hall hl h0 h15) fun env G σ H Q Ex Qv rs rh ex q k =>
    disp_in (fin := fun _ ks ds => .dic ks ds) (gfin := fun p G _ _ => gdel G p) hp (fun p ks ds G H rh => by
      obtain ⟨xs, hx, l, r⟩ := rh p _ gset_same
      rw [← gset_gdel (G := G) (p := p) (o := .dic ks ds)]
      exact ⟨.dic gdel_same hx rfl l (r.keep Keep.freeze), rh.freeze p, fun G1 H1 k => k.trans Keep.freeze⟩) rs rh ex q k
theorem q_dispM (hK : QP T X W pos ks vs ps) (hall : ks.all (·.isSome) = true := by rfl) (hl : ks.length = vs.length := by rfl) (h0 : ks ≠ [] := by exact List.cons_ne_nil _ _) (h15 : ks.length ≤ 15 := by decide) (hp : ps.length ≤ 15 := by decide) :
    QE T X W (.Dict ks vs pos) (wDispM ps) :=
  QE.of (pe_disp hK.pp hall hl h0 h15) fun env G σ H Q Ex Qv rs rh ex q k =>
    disp_in (fin := fun p _ _ => .ref p) (gfin := fun p G ks ds => gset G p (.dic ks ds)) hp (fun p ks ds G H rh => ⟨.ref p, rh, fun _ _ k => k⟩) rs rh ex q k
end
end DL
set_option Elab.async false
set_option linter.all false
set_option maxRecDepth 100000
set_option maxHeartbeats 4000000
namespace DL
open PySem PySem.Spec PyProof.Rows L2
theorem RoomG.hu {k : Nat} {A : Around} (r : RoomG k A) : A.units + 64 < cLine := by
  have := r.r.un
  omega
/-! ### a def with what it stands for -/
theorem okF {T : Tb} {P : Program} {w : World} {mg : Str → Option Value} {base : Heap} {k : Nat} {x qual : Str} {params : Arguments} {st : List Stmt} {scope : Scope} {dvs : List V} {kws : List (Str × V)} {f : Addr} {fd : FuncData} {N ps : List Str} {sp : DSp} {t : TSd}
    (F : FunD T.K x qual params st scope dvs kws f fd) (S : FnScope N ps scope) (len : ∀ ds G Q Ex, sp ds G Q Ex → ds.length = ps.length)
    (body : ∀ (cdv : Value) (A : Around) (outer : List Env) (s : Shared) (H : Hp) (E : XK), RoomG k (A.deeper (envOfC qual scope s.heap.objs.size f cdv)) →
      QSs T (cxOf (L2.CX P w) P w T.K mg base N qual scope f cdv A outer s H E) (fun cls d _ H => E cls d H) st t)
    (read : ∀ ds G Q Ex, sp ds G Q Ex → t { nx := fun _ G' => Q .non G', rt := Q, bk := fun _ _ => False, ct := fun _ _ => False, ex := fun c xs _ G' => Ex c xs G' } (startD N ds) G) :
    FnG P w T.K mg base (L2.CX P w) (k + 1) f fd ps (liftSp T sp) := by
  obtain ⟨oc, od, dV, kV, doc, pm, an, cdv, ct, osl, rfl, lk, hcd, _, _⟩ := F.ex
  refine ⟨fun vs H Q E ⟨ds, G, Q', Ex, r, _, h, _⟩ => r.length.symm.trans (len _ _ _ _ h), fun A outer s H args us vs Q E rg e0 bind rv ⟨ds, G, Q', Ex, r, rh, h, q1, q2⟩ => ?_⟩
  have hl : vs.length = ps.length := r.length.symm.trans (len _ _ _ _ h)
  have here : ∀ b o, base.get? b = some o → s.heap.get? b = some o := fun b o e => (e0.bs b o e).1
  have KX : T.K.In s.heap := e0.mod.kin.keeps here
  have scopes : ∀ y ∈ ps.zip us, scope.names.lookup y.1 = some .local ∨ (scope.names.lookup y.1 = some .cell ∧ ((cellsFrom (s.heap.objs.size + 1) scope.names []).lookup y.1).isSome = true) := by
    rintro ⟨n, v⟩ hy
    rcases S.par n (List.of_mem_zip hy).1 with q | q
    · exact .inl q
    · exact .inr ⟨q, PySem.W.cellsFrom_some _ _ _ (.inl q)⟩
  refine codeAny_call_function rg.r.depth (KX _ _ lk) rfl S.co S.gen rfl (PySem.W.codeRec_of KX hcd) (bind _ _ _ _ ?_)
  refine wpAny_newFunctionEnv_cells S.kind scopes fun env he s1 inn => ?_
  subst he
  refine ⟨(e0.mod.nolimit.keeps here).keeps inn.toInCall.keep, codeAny_func ?_⟩
  have I := inv_start (CX := L2.CX P w) (cd := cdv) (f := f) (E := E) S rg.r.hd e0 hl rv inn
  have B := (body cdv A outer s H E ⟨rg.r.deeper _, (guards_deeper A _).trans rg.g⟩).pss
  have start : liftS T (fun cls d _ H => E cls d H) t { nx := fun _ H' => Q .non H', rt := Q } (L2.start N vs) H := by
    refine ⟨startD N ds, G, _, start_rs r, rh, fun c xs env' G' cl dx σ' H' e rx rs rh' kp => q2 c xs G' cl dx H' e rx rh' kp, ⟨?_, ?_, ?_, ?_⟩, read ds G Q' Ex h⟩
    · exact fun _ G' _ H' _ b c q => q1 _ _ ⟨.non, G', .non, b, c, q⟩
    · exact fun d v G' H' a b c q => q1 _ _ ⟨d, G', a, b, c, q⟩
    · exact fun _ _ _ _ _ _ _ z => z.elim
    · exact fun _ _ _ _ _ _ _ z => z.elim
  refine wpAny_mono (B.run [] s1 (L2.start N vs) H _ I start) (fun fl s' ends => ?_) fun _ _ z => z
  cases fl with
  | ret u => exact let ⟨v, _, H', J, r', q⟩ := ends; ⟨v, H', J.os, J.bare, J.base, J.hok, r', q⟩
  | next => exact let ⟨_, H', J, q⟩ := ends; ⟨V.non, H', J.os, J.bare, J.base, J.hok, rfl, q⟩
  | brk => exact let ⟨_, _, _, q⟩ := ends; q.elim
  | cont => exact let ⟨_, _, _, q⟩ := ends; q.elim
theorem cal_of {T : Tb} {P : Program} {w : World} {mg : Str → Option Value} {base : Heap} {k : Nat} {x q : Str} {params : Arguments} {st : List Stmt} {scope : Scope} {f : Addr} {fd : FuncData} {ps : List Str} {sp : DSp}
    (F : FunD T.K x q params st scope [] [] f fd) (G : FnG P w T.K mg base (L2.CX P w) k f fd ps (liftSp T sp)) (hm : mg x = some (.ref f)) (b : Binds T.K fd ps []) : Cal T P w mg base x k ps.length sp :=
  ⟨f, fd, ps, rfl, G, hm, F.kp, b⟩
/-! ### built-in functions -/
section
variable {T : Tb} {X : Cx} {W : WX} {pos p p2 apos : Pos} {e a b c : Expr} {es : List Expr} {u : TAd} {te ta tb tc : TEd}
theorem q_gstr {x z : Str} (hg : Gl X x) (hm : ∃ t, X.mg x = some (.str z t)) (hd : (x == ("__debug__" : Str)) = false := by decide) : QE T X W (.Name x pos) (wC (.str z)) := by
  obtain ⟨t, hm⟩ := hm
  exact q_glob (v := .str z) hg hm ⟨t, rfl⟩ (fun _ _ => .str z) hd
theorem q_gint {x : Str} {i : Int} (hg : Gl X x) (hm : ∃ t, X.mg x = some (.int i t)) (hd : (x == ("__debug__" : Str)) = false := by decide) : QE T X W (.Name x pos) (wC (.int i)) := by
  obtain ⟨t, hm⟩ := hm
  exact q_glob (v := .int i) hg hm ⟨t, rfl⟩ (fun _ _ => .int i) hd
theorem q_eq (hK : X.K = T.K) (hu : X.A.units + 64 < cLine) (ha : QE T X W a ta) (hb : QE T X W b tb) (hm : behindInMarks .Eq b = false := by first | exact nomark _ | rfl) : QE T X W (.Compare a [.Eq] [b] pos) (wOp eqO ta tb) := q_cmp (op_eqO hu) (oi_eq hK) ha hb hm
theorem q_ne (hK : X.K = T.K) (hu : X.A.units + 64 < cLine) (ha : QE T X W a ta) (hb : QE T X W b tb) (hm : behindInMarks .NotEq b = false := by first | exact nomark _ | rfl) : QE T X W (.Compare a [.NotEq] [b] pos) (wOp neO ta tb) := q_cmp (op_neO hu) (oi_ne hK) ha hb hm
theorem qt_eq (hK : X.K = T.K) (hu : X.A.units + 64 < cLine) (ha : QE T X W a ta) (hb : QE T X W b tb) (hm : behindInMarks .Eq b = false := by first | exact nomark _ | rfl) : QT T X W (.Compare a [.Eq] [b] pos) (wTest (wOp eqO ta tb)) := qt_cmp (op_eqO hu) (oi_eq hK) ha hb hm
theorem qt_ne (hK : X.K = T.K) (hu : X.A.units + 64 < cLine) (ha : QE T X W a ta) (hb : QE T X W b tb) (hm : behindInMarks .NotEq b = false := by first | exact nomark _ | rfl) : QT T X W (.Compare a [.NotEq] [b] pos) (wTest (wOp neO ta tb)) := qt_cmp (op_neO hu) (oi_ne hK) ha hb hm
theorem q_notS (ha : QE T X W a ta) (hb : QE T X W b tb) (hm : behindInMarks .NotIn b = false := by first | exact nomark _ | rfl) : QE T X W (.Compare a [.NotIn] [b] pos) (wOp notInSO ta tb) := q_cmp op_notIn_sign oi_notInS ha hb hm
theorem q_inS (ha : QE T X W a ta) (hb : QE T X W b tb) (hm : behindInMarks .In b = false := by first | exact nomark _ | rfl) : QE T X W (.Compare a [.In] [b] pos) (wOp inSO ta tb) := q_cmp op_in_sign oi_inS ha hb hm
theorem qt_notS (ha : QE T X W a ta) (hb : QE T X W b tb) (hm : behindInMarks .NotIn b = false := by first | exact nomark _ | rfl) : QT T X W (.Compare a [.NotIn] [b] pos) (wTest (wOp notInSO ta tb)) := qt_cmp op_notIn_sign oi_notInS ha hb hm
theorem qt_inS (ha : QE T X W a ta) (hb : QE T X W b tb) (hm : behindInMarks .In b = false := by first | exact nomark _ | rfl) : QT T X W (.Compare a [.In] [b] pos) (wTest (wOp inSO ta tb)) := qt_cmp op_in_sign oi_inS ha hb hm
theorem qt_isB (ha : QE T X W a ta) (hb : QE T X W b tb) (hm : behindInMarks .Is b = false := by first | exact nomark _ | rfl) : QT T X W (.Compare a [.Is] [b] pos) (wTest (wOp isBO ta tb)) := qt_cmp op_isBl oi_isB ha hb hm
theorem qt_notB (ha : QE T X W a ta) (hb : QE T X W b tb) (hm : behindInMarks .IsNot b = false := by first | exact nomark _ | rfl) : QT T X W (.Compare a [.IsNot] [b] pos) (wTest (wOp notBO ta tb)) := qt_cmp op_notBl oi_notB ha hb hm
theorem qt_leLe (ha : QE T X W a ta) (hb : QE T X W b tb) (hc : QE T X W c tc) (hm : lastMarks [.LtE, .LtE] [b, c] = false := by with_unfolding_all rfl) : QT T X W (.Compare a [.LtE, .LtE] [b, c] pos) (wTest (wChain leO leO ta tb tc)) :=
  qt_chain (oi_int0 fun _ _ _ _ => .bl _) (oi_int0 fun _ _ _ _ => .bl _) (pt_chain op_le op_le ha.pe hb.pe hc.pe hm)
theorem q_len (hK : X.K = T.K) (hm : X.mg "len" = none) (ha : QA T X W (e :: es) u) (hg : Gl X "len" := by rfl) (he : starEach (e :: es) X.env = (false, eval e X.env) :: starEach es X.env := by rfl) (hpl : (backTo pos (starEach es X.env)).any (·.1) = false := by rfl) :
    QE T X W (.Call (.Name "len" p) (e :: es) [] pos) (wCall lenO u) := q_callB call_len (ci_len hK) hg hm rfl ha (by decide) (by decide) he hpl
theorem q_abs (hm : X.mg "abs" = none) (ha : QA T X W (e :: es) u) (hg : Gl X "abs" := by rfl) (he : starEach (e :: es) X.env = (false, eval e X.env) :: starEach es X.env := by rfl) (hpl : (backTo pos (starEach es X.env)).any (·.1) = false := by rfl) :
    QE T X W (.Call (.Name "abs" p) (e :: es) [] pos) (wCall absO u) := q_callB call_abs ci_abs hg hm rfl ha (by decide) (by decide) he hpl
theorem q_all (hc : X.calm = true) (hK : X.K = T.K) (hm : X.mg "all" = none) (ha : QA T X W (e :: es) u) (hg : Gl X "all" := by rfl) (he : starEach (e :: es) X.env = (false, eval e X.env) :: starEach es X.env := by rfl) (hpl : (backTo pos (starEach es X.env)).any (·.1) = false := by rfl) :
    QE T X W (.Call (.Name "all" p) (e :: es) [] pos) (wCall (allO fun bs => bs.all id) u) := q_callB (cr_all hc) (ci_all hK) hg hm rfl ha (by decide) (by decide) he hpl
theorem q_any (hc : X.calm = true) (hK : X.K = T.K) (hm : X.mg "any" = none) (ha : QA T X W (e :: es) u) (hg : Gl X "any" := by rfl) (he : starEach (e :: es) X.env = (false, eval e X.env) :: starEach es X.env := by rfl) (hpl : (backTo pos (starEach es X.env)).any (·.1) = false := by rfl) :
    QE T X W (.Call (.Name "any" p) (e :: es) [] pos) (wCall (allO fun bs => bs.any id) u) := q_callB (cr_any hc) (ci_any hK) hg hm rfl ha (by decide) (by decide) he hpl
theorem q_isi (c : String) (hK : X.K = T.K) (hm : X.mg "isinstance" = none) (ha : QA T X W (e :: es) u) (hc : c ∈ clsNames := by decide) (hg : Gl X "isinstance" := by rfl) (he : starEach (e :: es) X.env = (false, eval e X.env) :: starEach es X.env := by rfl) (hpl : (backTo pos (starEach es X.env)).any (·.1) = false := by rfl) :
    QE T X W (.Call (.Name "isinstance" p) (e :: es) [] pos) (wCall (isiO c) u) := q_callB call_isi (ci_isi hK hc) hg hm rfl ha (by decide) (by decide) he hpl
theorem q_repr (hK : X.K = T.K) (hgd : X.A.guards = some []) (hu : X.A.units + 64 < cLine) (hm : X.mg "repr" = none) (ha : QA T X W (e :: es) u) (hg : Gl X "repr" := by rfl) (he : starEach (e :: es) X.env = (false, eval e X.env) :: starEach es X.env := by rfl) (hpl : (backTo pos (starEach es X.env)).any (·.1) = false := by rfl) :
    QE T X W (.Call (.Name "repr" p) (e :: es) [] pos) (wCall reprO u) := q_callB (call_reprD hK hgd hu) ci_repr hg hm rfl ha (by decide) (by decide) he hpl
theorem q_appendL (hK : X.K = T.K) {o : Expr} {to : TEd} (ho : QE T X W o to) (ha : QA T X W [e] u) (hbase : attributeBase o "append" X.env (eval o X.env) = eval o X.env := by rfl)
    (hfew : ((backTo pos (starEach [e] X.env)).all (fun x => !x.1) && (backToKw pos (keywordEach [] X.env)).all (fun x => x.1.isSome) && decide (([e] : List Expr).length + ([] : List Keyword).length + (if ([] : List Keyword).isEmpty then 0 else 1) < 30)) = true := by rfl)
    (hline : (apos.endLine == pos.line) = true := by rfl) (hs : starEach [e] X.env = (false, eval e X.env) :: starEach [] X.env := by rfl) (hplain : (backTo pos (starEach [] X.env)).any (·.1) = false := by rfl) :
    QE T X W (.Call (.Attribute o "append" apos) [e] [] pos) (wML appendO to u) := by
  exact q_append (pe_bm PySem.F.plainAttrs_list PySem.F.slot_list_append PySem.F.type_list_append mt_append ho.pe ha.pa hbase hfew hline hs hplain)
theorem q_joinL (hK : X.K = T.K) {o : Expr} {to : TEd} (ho : QE T X W o to) (ha : QA T X W [e] u) (hbase : attributeBase o "join" X.env (eval o X.env) = eval o X.env := by rfl)
    (hfew : ((backTo pos (starEach [e] X.env)).all (fun x => !x.1) && (backToKw pos (keywordEach [] X.env)).all (fun x => x.1.isSome) && decide (([e] : List Expr).length + ([] : List Keyword).length + (if ([] : List Keyword).isEmpty then 0 else 1) < 30)) = true := by rfl)
    (hline : (apos.endLine == pos.line) = true := by rfl) (hs : starEach [e] X.env = (false, eval e X.env) :: starEach [] X.env := by rfl) (hplain : (backTo pos (starEach [] X.env)).any (·.1) = false := by rfl) :
    QE T X W (.Call (.Attribute o "join" apos) [e] [] pos) (wMS joinO to u) :=
  q_bmS (id := "str.join") (pe_bm PySem.F.plainAttrs_str PySem.F.slot_str_join PySem.F.type_str_join mt_join ho.pe ha.pa hbase hfew hline hs hplain) (mi_join hK)
end
/-! ### loops, read -/
theorem wForL_inv {stay : GH → Prop} {g : TGd} {t : TSd} {De : DEnds} (I : List D → Ev → GH → Prop)
    (hend : ∀ env G, I [] env G → stay G ∧ De.nx env G)
    (hstep : ∀ d r env G (nx : Ev → GH → Prop), I (d :: r) env G → (∀ env' G', I r env' G' → nx env' G') → stay G ∧ g d env G (fun env1 G1 => t { De with nx := nx, ct := nx, bk := De.nx } env1 G1) (fun c xs G' => De.ex c xs env G')) :
    ∀ (ds : List D) (env : Ev) (G : GH), I ds env G → wForL stay g t De ds env G
  | [], env, G, h => hend env G h
  | d :: r, env, G, h => hstep d r env G (fun e G => wForL stay g t De r e G) h fun e' G' h' => wForL_inv I hend hstep r e' G' h'
theorem wCompL_inv {p : Addr} {stay : GH → Prop} {gd : TGd} {tt : TTd} {te : TEd} {env0 : Ev} {Q : List D → GH → Prop} (I : List D → List D → GH → Prop)
    (hend : ∀ acc G, I [] acc G → stay G ∧ G p = some (.lst acc) ∧ Q acc G)
    (hstep : ∀ d r acc G (k : List D → GH → Prop), I (d :: r) acc G → (∀ acc' G', I r acc' G' → k acc' G') → stay G ∧ gd d env0 G (fun env1 G1 => tt env1 G1 (fun b G2 => if b = true then te env1 G2 (fun y G3 => G3 p = some (.lst acc) ∧ k (acc ++ [y]) (gset G3 p (.lst (acc ++ [y])))) (fun _ _ _ => False) else k acc G2) (fun _ _ _ => False)) (fun _ _ _ => False)) :
    ∀ (ds acc : List D) (G : GH), I ds acc G → wCompL p stay gd tt te env0 Q ds acc G
  | [], acc, G, h => hend acc G h
  | d :: r, acc, G, h => hstep d r acc G (fun acc' G' => wCompL p stay gd tt te env0 Q r acc' G') h fun acc' G' h' => wCompL_inv I hend hstep r acc' G' h'
/-- a list of pure words: f tells the word of each, or that it is passed over -/
theorem wLc_pure {p : Addr} {stay : GH → Prop} {gd : TGd} {tt : TTd} {te : TEd} {env0 : Ev} {Q : List D → GH → Prop} {G0 : GH} (f : D → Option D) (hp : G0 p = none) (hst : ∀ acc, stay (gset G0 p (.lst acc))) :
    ∀ (ds acc : List D), (∀ d ∈ ds, ∀ G (k : D → Prop) (k0 : Prop), (match f d with | some y => k y | none => k0) →
      gd d env0 G (fun env1 G1 => tt env1 G1 (fun b G2 => if b = true then te env1 G2 (fun y G3 => G3 = G ∧ k y) (fun _ _ _ => False) else G2 = G ∧ k0) (fun _ _ _ => False)) (fun _ _ _ => False)) →
      (∀ {d : D} {G : GH} {P1 P2 : Ev → GH → Prop}, (∀ e G, P1 e G → P2 e G) → gd d env0 G P1 (fun _ _ _ => False) → gd d env0 G P2 (fun _ _ _ => False)) →
      (∀ {e : Ev} {G : GH} {P1 P2 : Bool → GH → Prop}, (∀ e G, P1 e G → P2 e G) → tt e G P1 (fun _ _ _ => False) → tt e G P2 (fun _ _ _ => False)) →
      (∀ {e : Ev} {G : GH} {P1 P2 : DK}, (∀ e G, P1 e G → P2 e G) → te e G P1 (fun _ _ _ => False) → te e G P2 (fun _ _ _ => False)) →
      Q (acc ++ ds.filterMap f) (gset G0 p (.lst (acc ++ ds.filterMap f))) → wCompL p stay gd tt te env0 Q ds acc (gset G0 p (.lst acc))
  | [], acc, _, _, _, _, q => ⟨hst acc, gset_same, by simpa using q⟩
  | d :: r, acc, h, mg, mt, me, q => by
    refine ⟨hst acc, ?_⟩
    have h0 := h d List.mem_cons_self (gset G0 p (.lst acc)) (fun y => some y = f d) (none = f d) (by cases f d <;> rfl)
    refine mg (fun e1 G1 h1 => mt (fun b G2 h2 => ?_) h1) h0
    have next := fun acc' => wLc_pure (Q := Q) f hp hst r acc' (fun d hd => h d (List.mem_cons_of_mem _ hd)) mg mt me
    cases b with
    | true =>
      rw [if_pos rfl] at h2 ⊢
      refine me (fun y G3 h3 => ?_) h2
      obtain ⟨rfl, ey⟩ := h3
      refine ⟨gset_same, ?_⟩
      rw [gset_gset]
      refine next (acc ++ [y]) ?_
      rw [List.filterMap_cons, ← ey] at q
      simpa [List.append_assoc] using q
    | false =>
      rw [if_neg Bool.false_ne_true] at h2 ⊢
      obtain ⟨rfl, ey⟩ := h2
      refine next acc ?_
      rw [List.filterMap_cons, ← ey] at q
      exact q
/-! ### the end, over facts by names -/
theorem lawG_walkE {l : PySem.W.OpenLaw} {k : Nat} {q : Program} {loose : List Str} {XP : (Str → Option Value) → Heap → Prop} {YP : World → Heap → Prop} {d : DefRec} {x : Str}
    (hn : l.most = some 63) (hdf : d.params.defaults = []) (hr : RoomG k callerA)
    (F : ∀ (w : World) (mg : Str → Option Value) (fa : Addr) (h : Heap), YP w h → h.Ns mainGlobals mg → mg d.name = some (.ref fa) →
      ∃ (T : Tb) (fd : FuncData), T.K.In h ∧ (∀ (s : Shared) (u : Value), BindsTo s fd ⟨[u], []⟩ [(x, u)]) ∧
        ∀ base : Heap, T.K.In base → base.Ns mainGlobals mg → FnG l.prog w T.K mg base (L2.CX l.prog w) k fa fd [x] (liftSp T spLaw)) :
    PySem.W.WalkO q loose XP YP l.row.toRowW d [] (fun f vs => PySem.call f vs) := by
  refine Att.attach_call hn hdf fun w s₀ s₁ mg mb fa o pm cd doc a vs ns G Y ho hd hcd hmg hobj hints hlen hg => ?_
  obtain ⟨T, fd, KX, hb, hF⟩ := F w mg fa _ Y G.T.g hmg
  exact lawG_call (T := T) KX G.T.g G.T.b G.T.builtins G.T.nolimit hg hobj hints hlen hr hF hb
end DL
set_option Elab.async false
set_option linter.all false
set_option maxRecDepth 100000
set_option maxHeartbeats 4000000
namespace DL
open PySem PySem.Spec PyProof.Rows L2
/-! ### what readings of known words say -/
section
variable {g : Int → Int → D} {C : Int → Int → Prop} {i j k : Int} {x y : D} {u v : Str} {ds es : List D} {a b : Addr} {G : GH} {Q : DK}
theorem int0_ii : int0 g (.int i) (.int j) G Q = Q (g i j) G := rfl
theorem intO_ii : intO C g (.int i) (.int j) G Q = (C i j ∧ Q (g i j) G) := rfl
theorem addO_ii : addO (.int i) (.int j) G Q = Q (.int (i + j)) G := rfl
theorem addO_ss : addO (.str u) (.str v) G Q = (u.length + v.length ≤ sizeLine ∧ Q (.str (u ++ v)) G) := rfl
theorem addO_tt : addO (.tup ds) (.tup es) G Q = (ds.length + es.length ≤ sizeLine ∧ Q (.tup (ds ++ es)) G) := rfl
theorem addO_ll : addO (.lst ds) (.lst es) G Q = (ds.length + es.length ≤ sizeLine ∧ Q (.lst (ds ++ es)) G) := rfl
theorem mulDO_ii : mulDO (.int i) (.int k) G Q = ((CMulW i k ∨ CMul i k) ∧ Q (.int (i * k)) G) := rfl
theorem mulDO_li : mulDO (.lst ds) (.int k) G Q = (-(2 ^ 63) ≤ k ∧ k < 2 ^ 63 ∧ ds.length * k.toNat ≤ sizeLine ∧ Q (.lst (List.replicate k.toNat ds).flatten) G) := rfl
theorem mulDO_ti : mulDO (.tup ds) (.int k) G Q = (ds ≠ [] ∧ 2 ≤ k ∧ ds.length * k.toNat ≤ 1000000 ∧ Q (.tup (List.replicate k.toNat ds).flatten) G) := rfl
theorem mulDO_si : mulDO (.str u) (.int k) G Q = (MulOk u k ∧ Q (.str (Txt.mul u k)) G) := rfl
theorem ixO_t : ixO (.tup ds) (.int i) G Q = ∃ d, atI ds i = some d ∧ Q d G := rfl
theorem ixO_l : ixO (.lst ds) (.int i) G Q = ∃ d, atI ds i = some d ∧ Q d G := rfl
theorem ixO_f : ixO (.frl ds) (.int i) G Q = ∃ d, atI ds i = some d ∧ Q d G := rfl
theorem ixO_s : ixO (.str u) (.int i) G Q = (u.length ≤ sizeLine ∧ ∃ c, atI u.cps.toList i = some c ∧ Q (.str ⟨#[c]⟩) G) := rfl
theorem ixO_r : ixO (.ref a) (.int i) G Q = ∃ ds, G a = some (.lst ds) ∧ ∃ d, atI ds i = some d ∧ Q d G := rfl
theorem negO_c {env : Ev} {Ex : DX} : negO (wC (.int i)) env G Q Ex = ∃ j, i = j ∧ Q (.int (-j)) G := by
  show (∃ j, D.int i = .int j ∧ Q (.int (-j)) G) = _
  simp only [D.int.injEq]
theorem lenO_1 : lenO [x] G Q = lenO1 (topD G x) G Q := rfl
theorem lenO1_s : lenO1 (.str u) G Q = (u.length ≤ sizeLine ∧ Q (.int u.length) G) := rfl
theorem lenO1_t : lenO1 (.tup ds) G Q = Q (.int ds.length) G := rfl
theorem lenO1_l : lenO1 (.lst ds) G Q = Q (.int ds.length) G := rfl
theorem lenO1_f : lenO1 (.frl ds) G Q = Q (.int ds.length) G := rfl
theorem absO_i : absO [.int i] G Q = Q (.int (if i < 0 then -i else i)) G := rfl
theorem allO_1 {f : List Bool → Bool} : allO f [x] G Q = ∃ xs, topD G x = .lst xs ∧ ∃ bs, blsD xs = some bs ∧ Q (.bl (f bs)) G := rfl
theorem isiO_1 {c n : String} : isiO c [x, .ty n] G Q = (n = c ∧ ∃ a, tyD G x = some a ∧ Q (.bl (instB a c)) G) := rfl
theorem reprO_1 : reprO [x] G Q = (showD x = true ∧ (pyR x).showable = true ∧ (pyR x).shown.length ≤ sizeLine ∧ (pyR x).depth ≤ 60 ∧ Q (.str (pyR x).shown) G) := rfl
theorem joinO_1 : joinO (.str u) [x] G Q = ∃ xs ys, topD G x = .lst xs ∧ strsD xs = some ys ∧ (ys.map (·.length)).sum + ys.length * u.length ≤ 16777216 ∧ Q (.str (Txt.join u ys)) G := rfl
theorem appendO_1 {xs : List D} : appendO a xs [x] G Q = ∃ d, [x] = [d] ∧ xs.length < sizeLine ∧ Q .non (gset G a (.lst (xs ++ [d]))) := rfl
theorem slO_t {lo hi : Option Int} : slO (.tup ds) lo hi G Q = Q (.tup (cutD ds lo hi)) G := rfl
theorem slO_l {lo hi : Option Int} : slO (.lst ds) lo hi G Q = Q (.lst (cutD ds lo hi)) G := rfl
theorem slO_f {lo hi : Option Int} : slO (.frl ds) lo hi G Q = Q (.lst (cutD ds lo hi)) G := rfl
theorem slO_s {lo hi : Option Int} : slO (.str u) lo hi G Q = (u.length ≤ sizeLine ∧ Q (.str (cutS u lo hi)) G) := rfl
theorem itO_l {Q : List D → (GH → Prop) → GH → Prop} : itO (.lst ds) G Q = Q ds always G := rfl
theorem itO_f {Q : List D → (GH → Prop) → GH → Prop} : itO (.frl ds) G Q = Q ds always G := rfl
theorem itO_r {Q : List D → (GH → Prop) → GH → Prop} : itO (.ref a) G Q = ∃ ds, G a = some (.lst ds) ∧ Q ds (fun G => G a = some (.lst ds)) G := rfl
theorem setO_ri {Q : GH → Prop} : setO (.ref a) (.int k) x G Q ↔ ∃ ds, G a = some (.lst ds) ∧ ∃ j, ixN ds.length k = some j ∧ Q (gset G a (.lst (ds.set j x))) := by
  constructor
  · rintro ⟨a', ds, k', j, e1, e2, h1, h2, q⟩
    cases e1; cases e2
    exact ⟨ds, h1, j, h2, q⟩
  · rintro ⟨ds, h1, j, h2, q⟩
    exact ⟨a, ds, k, j, rfl, rfl, h1, h2, q⟩
theorem atI_nat {α : Type} (xs : List α) (n : Nat) : atI xs (n : Int) = xs[n]? := by
  unfold atI ixN
  by_cases h : n < xs.length
  · rw [if_pos (by omega), if_pos (by omega)]
    rfl
  · rw [if_pos (by omega), if_neg (by omega), List.getElem?_eq_none (by omega)]
    rfl
theorem atI_get {α : Type} (xs : List α) {i : Int} (h0 : 0 ≤ i) : atI xs i = xs[i.toNat]? := by
  have e : i = (i.toNat : Int) := by omega
  rw [e, atI_nat, ← e]
theorem augAt_ri {K : D → Prop} : augAt (.ref a) (.int k) G K ↔ ∃ ds, G a = some (.lst ds) ∧ (0 ≤ k ∧ ∃ d, atI ds k = some d ∧ K d) := by
  constructor
  · rintro ⟨a', ds, k', d, e1, e2, h0, h1, h2, q⟩
    cases e1; cases e2
    exact ⟨ds, h1, h0, d, (atI_get ds h0).trans h2, q⟩
  · rintro ⟨ds, h1, h0, d, h2, q⟩
    rw [atI_get ds h0] at h2
    exact ⟨a, ds, k, d, rfl, rfl, h0, h1, h2, q⟩
theorem eqO_ss : eqO (.str u) (.str v) G Q = Q (.bl (decide (u = v))) G := rfl
theorem eqO_i : eqO (.int i) y G Q = eqG (.int i) y G Q := rfl
theorem eqO_b {c : Bool} : eqO (.bl c) y G Q = eqG (.bl c) y G Q := rfl
theorem eqO_l : eqO (.lst ds) y G Q = eqG (.lst ds) y G Q := rfl
theorem eqO_t : eqO (.tup ds) y G Q = eqG (.tup ds) y G Q := rfl
theorem eqO_r : eqO (.ref a) y G Q = eqG (.ref a) y G Q := rfl
theorem neO_ss : neO (.str u) (.str v) G Q = Q (.bl (!decide (u = v))) G := rfl
theorem neO_i : neO (.int i) y G Q = neG (.int i) y G Q := rfl
theorem neO_b {c : Bool} : neO (.bl c) y G Q = neG (.bl c) y G Q := rfl
theorem neO_l : neO (.lst ds) y G Q = neG (.lst ds) y G Q := rfl
theorem neO_t : neO (.tup ds) y G Q = neG (.tup ds) y G Q := rfl
theorem neO_r : neO (.ref a) y G Q = neG (.ref a) y G Q := rfl
/-- data equals itself -/
theorem eqO_self (h : okD x = true) (ht : topD G x = x) (q : Q (.bl true) G) : eqO x x G Q := by
  have gen : eqG x x G Q := by
    unfold eqG
    rw [ht, show eqD x x = true from SeqAt.eqv_refl _ (SeqAt.canLay_of_shaped h)]
    exact ⟨h, h, q⟩
  cases x with
  | str u => show Q (.bl (decide (u = u))) G; rw [decide_eq_true rfl]; exact q
  | _ => exact gen
theorem topD_i : topD G (.int i) = .int i := rfl
theorem topD_s : topD G (.str u) = .str u := rfl
theorem topD_b {c : Bool} : topD G (.bl c) = .bl c := rfl
theorem topD_n : topD G .non = .non := rfl
theorem topD_t : topD G (.tup ds) = .tup ds := rfl
theorem topD_l : topD G (.lst ds) = .lst ds := rfl
theorem topD_f : topD G (.frl ds) = .frl ds := rfl
theorem topD_d {ks : List Key} : topD G (.dic ks ds) = .dic ks ds := rfl
theorem okD_i : okD (.int i) = true := rfl
theorem okD_s : okD (.str u) = PyData.strOk u := by
  show (PyData.canLay0 (.str u) && decide (PyData.depth (.str u) ≤ 64)) = _
  unfold PyData.canLay0 PyData.depth
  rw [decide_eq_true (by omega), Bool.and_true]
theorem okD_b {c : Bool} : okD (.bl c) = true := by cases c <;> rfl
theorem okD_n : okD .non = true := rfl
theorem eqD_ii : eqD (.int i) (.int j) = decide (i = j) := by
  show PyData.eqv (.int i) (.int j) = _
  unfold PyData.eqv
  first
    | rfl
    | simp [BEq.beq]
theorem eqD_ss : eqD (.str u) (.str v) = decide (u = v) := by
  show PyData.eqv (.str u) (.str v) = _
  unfold PyData.eqv
  first
    | rfl
    | (simp [BEq.beq]; done)
    | exact Bool.beq_eq_decide_eq _ _
theorem eqD_refl (h : okD x = true) : eqD x x = true := SeqAt.eqv_refl _ (SeqAt.canLay_of_shaped h)
theorem tyD_n : tyD G .non = some "NoneType" := rfl
theorem tyD_b {c : Bool} : tyD G (.bl c) = some "bool" := rfl
theorem tyD_i : tyD G (.int i) = some "int" := rfl
theorem tyD_s : tyD G (.str u) = some "str" := rfl
theorem tyD_t : tyD G (.tup ds) = some "tuple" := rfl
theorem tyD_l : tyD G (.lst ds) = some "list" := rfl
theorem tyD_f : tyD G (.frl ds) = some "list" := rfl
theorem tyD_d {ks : List Key} : tyD G (.dic ks ds) = some "dict" := rfl
theorem atI_0 {α : Type} {x : α} {r : List α} : atI (x :: r) 0 = some x := atI_nat (x :: r) 0
theorem atI_1 {α : Type} {x y : α} {r : List α} : atI (x :: y :: r) 1 = some y := atI_nat (x :: y :: r) 1
theorem atI_2 {α : Type} {x y z : α} {r : List α} : atI (x :: y :: z :: r) 2 = some z := atI_nat (x :: y :: z :: r) 2
theorem atI_3 {α : Type} {x y z w : α} {r : List α} : atI (x :: y :: z :: w :: r) 3 = some w := atI_nat (x :: y :: z :: w :: r) 3
theorem ixN_40 : ixN 4 0 = some 0 := rfl
theorem ixN_41 : ixN 4 1 = some 1 := rfl
theorem ixN_42 : ixN 4 2 = some 2 := rfl
theorem ixN_get {n : Nat} {i : Int} (h0 : 0 ≤ i) (h : i < n) : ixN n i = some i.toNat := by
  unfold ixN
  rw [if_pos h0, if_pos h]
end
theorem eqo_t {a : Addr} {o u : DO} : ((some o : Option DO) = some u) = (o = u) := Option.some.injEq o u
end DL
set_option Elab.async false
set_option linter.all false
set_option maxRecDepth 100000
set_option maxHeartbeats 4000000
namespace DL
open PySem PySem.Spec PyProof.Rows L2
theorem one_inj {c d : Nat} : ((⟨#[c]⟩ : Str) = ⟨#[d]⟩) ↔ c = d := by
  constructor
  · intro h
    have h1 : (#[c] : Array Nat) = #[d] := congrArg Str.cps h
    have h2 := congrArg Array.toList h1
    exact (List.cons.inj h2).1
  · intro h; rw [h]
theorem inSO_1 {c : Nat} {z : Str} {G : GH} {Q : DK} : inSO (.str ⟨#[c]⟩) (.str z) G Q ↔ Q (.bl (decide (c ∈ z.cps.toList))) G := by
  constructor
  · rintro ⟨d, y, e1, e2, q⟩
    have e3 := one_inj.mp (D.str.inj e1)
    cases e2
    subst e3
    exact q
  · intro q
    exact ⟨c, z, rfl, rfl, q⟩
theorem notInSO_1 {c : Nat} {z : Str} {G : GH} {Q : DK} : notInSO (.str ⟨#[c]⟩) (.str z) G Q ↔ Q (.bl (!decide (c ∈ z.cps.toList))) G := by
  constructor
  · rintro ⟨d, y, e1, e2, q⟩
    have e3 := one_inj.mp (D.str.inj e1)
    cases e2
    subst e3
    exact q
  · intro q
    exact ⟨c, z, rfl, rfl, q⟩
theorem isBO_1 {a b : Bool} {G : GH} {Q : DK} : isBO (.bl a) (.bl b) G Q ↔ Q (.bl (decide (a = b))) G := by
  constructor
  · rintro ⟨c, d, e1, e2, q⟩
    cases e1; cases e2
    exact q
  · intro q
    exact ⟨a, b, rfl, rfl, q⟩
theorem notBO_1 {a b : Bool} {G : GH} {Q : DK} : notBO (.bl a) (.bl b) G Q ↔ Q (.bl (!decide (a = b))) G := by
  constructor
  · rintro ⟨c, d, e1, e2, q⟩
    cases e1; cases e2
    exact q
  · intro q
    exact ⟨a, b, rfl, rfl, q⟩
/-- one turn of a list comprehension -/
abbrev lcTurn (p : Addr) (gd : TGd) (tt : TTd) (te : TEd) (env0 : Ev) (d : D) (acc : List D) (G : GH) (k : List D → GH → Prop) : Prop :=
  gd d env0 G (fun env1 G1 => tt env1 G1 (fun b G2 => if b = true then te env1 G2 (fun y G3 => G3 p = some (.lst acc) ∧ k (acc ++ [y]) (gset G3 p (.lst (acc ++ [y])))) (fun _ _ _ => False) else k acc G2) (fun _ _ _ => False)) (fun _ _ _ => False)
/-- a comprehension that leaves what changes alone: f tells the word of each item, if there is one -/
theorem lc_map {p : Addr} {stay : GH → Prop} {gd : TGd} {tt : TTd} {te : TEd} {env0 : Ev} {Q : List D → GH → Prop} {G0 : GH} (f : D → Option D) (hst : ∀ acc, stay (gset G0 p (.lst acc))) :
    ∀ (ds acc : List D), (∀ d ∈ ds, ∀ acc (k : List D → GH → Prop), (k (acc ++ (f d).toList) (gset G0 p (.lst (acc ++ (f d).toList)))) → lcTurn p gd tt te env0 d acc (gset G0 p (.lst acc)) k) →
      Q (acc ++ ds.filterMap f) (gset G0 p (.lst (acc ++ ds.filterMap f))) → wCompL p stay gd tt te env0 Q ds acc (gset G0 p (.lst acc))
  | [], acc, _, q => ⟨hst acc, gset_same, by simpa using q⟩
  | d :: r, acc, h, q => by
    refine ⟨hst acc, h d List.mem_cons_self acc (fun acc' G' => wCompL p stay gd tt te env0 Q r acc' G') ?_⟩
    refine lc_map f hst r _ (fun d hd => h d (List.mem_cons_of_mem _ hd)) ?_
    have e : acc ++ (f d).toList ++ r.filterMap f = acc ++ (d :: r).filterMap f := by
      rw [List.filterMap_cons]
      cases f d <;> simp
    rw [e]
    exact q
/-- .. as a list that is not changed any more -/
theorem lc_pure {p : Addr} {stay : GH → Prop} {gd : TGd} {tt : TTd} {te : TEd} {env0 : Ev} {Q : DK} {G0 : GH} (f : D → Option D) (np : G0 p = none) (hst : ∀ acc, stay (gset G0 p (.lst acc))) (ds : List D)
    (h : ∀ d ∈ ds, ∀ acc (k : List D → GH → Prop), (k (acc ++ (f d).toList) (gset G0 p (.lst (acc ++ (f d).toList)))) → lcTurn p gd tt te env0 d acc (gset G0 p (.lst acc)) k)
    (q : Q (.lst (ds.filterMap f)) G0) : wCompL p stay gd tt te env0 (fun acc G2 => Q (.lst acc) (gdel G2 p)) ds [] (gset G0 p (.lst [])) := by
  refine lc_map f hst ds [] h ?_
  rw [List.nil_append]
  show Q (.lst (ds.filterMap f)) (gdel (gset G0 p _) p)
  rw [gdel_gset np]
  exact q
theorem gset_swap {G : GH} {a p : Addr} {x y z : DO} (h : p ≠ a) : gset (gset (gset G a x) p y) a z = gset (gset G a z) p y := by
  funext b
  unfold gset
  by_cases e : b = a
  · subst e
    rw [if_pos rfl, if_neg (fun q => h q.symm), if_pos rfl]
  · simp only [e, if_false]
theorem gset_two {G : GH} {a p : Addr} {x y : DO} (h : p ≠ a) : gset (gset G a x) p y a = some x := by rw [gset_ne fun q => h q.symm, gset_same]
/-- a comprehension that draws from what stands at a: J tells what may stand there, R what a word may be -/
theorem lc_draw {a p : Addr} {stay : GH → Prop} {gd : TGd} {tt : TTd} {te : TEd} {env0 : Ev} {Q : List D → GH → Prop} {G0 : GH} (J R : D → Prop) (hst : ∀ (d : DO) acc, stay (gset (gset G0 a d) p (.lst acc)))
    (h : ∀ (d : D) (b acc : List D) (k : List D → GH → Prop), J (.lst b) → (∀ y b', R y → J (.lst b') → k (acc ++ [y]) (gset (gset G0 a (.lst b')) p (.lst (acc ++ [y])))) → lcTurn p gd tt te env0 d acc (gset (gset G0 a (.lst b)) p (.lst acc)) k)
    {n : Nat} (q : ∀ acc b, (∀ y ∈ acc, R y) → acc.length = n → J (.lst b) → Q acc (gset (gset G0 a (.lst b)) p (.lst acc))) :
    ∀ (ds acc b : List D), acc.length + ds.length = n → (∀ y ∈ acc, R y) → J (.lst b) → wCompL p stay gd tt te env0 Q ds acc (gset (gset G0 a (.lst b)) p (.lst acc))
  | [], acc, b, hl, ha, hb => ⟨hst _ _, gset_same, q acc b ha (by simpa using hl) hb⟩
  | d :: r, acc, b, hl, ha, hb => ⟨hst _ _, h d b acc (fun acc' G' => wCompL p stay gd tt te env0 Q r acc' G') hb fun y b' hy hb' =>
    lc_draw J R hst h q r (acc ++ [y]) b' (by simp only [List.length_append, List.length_cons, List.length_nil] at hl ⊢; omega)
      (fun z hz => by
        rcases List.mem_append.mp hz with hz | hz
        · exact ha z hz
        · rw [List.mem_singleton.mp hz]; exact hy) hb'⟩
/-- the text of these signs -/
abbrev tx (l : List Nat) : Str := ⟨l.toArray⟩
theorem tx_len (l : List Nat) : (tx l).length = l.length := by simp [tx, Str.length]
theorem tx_cat (a b : List Nat) : tx a ++ tx b = tx (a ++ b) := TL.ext_tl (TL.tl_append (tx a) (tx b))
theorem tx_list (l : List Nat) : (tx l).cps.toList = l := rfl
theorem tx_ok {l : List Nat} (h : ∀ c ∈ l, c < 0x110000) : PyData.strOk (tx l) = true := by
  unfold PyData.strOk
  rw [← Array.all_toList]
  exact List.all_eq_true.mpr fun c hc => decide_eq_true (h c hc)
theorem cut_lo (l : List Nat) {i : Int} (h0 : 0 ≤ i) (h1 : i ≤ l.length) : cutS (tx l) none (some i) = tx (l.take i.toNat) := by
  have e : i = ((i.toNat : Nat) : Int) := by omega
  unfold cutS
  rw [e, HT.sIx_nat, HT.sIx_none, tx_len, Nat.min_eq_left (by omega), List.drop_zero, Nat.sub_zero]
  rfl
theorem cut_hi (l : List Nat) {i : Int} (h0 : 0 ≤ i) (h1 : i ≤ l.length) : cutS (tx l) (some i) none = tx (l.drop i.toNat) := by
  have e : i = ((i.toNat : Nat) : Int) := by omega
  unfold cutS
  rw [e, HT.sIx_nat, HT.sIx_none, tx_len, Nat.min_eq_left (by omega), List.take_of_length_le]
  · rfl
  · rw [List.length_drop]
    show l.length - _ ≤ _
    omega
def IsSign (d : D) : Prop := ∃ c, d = .str ⟨#[c]⟩ ∧ c < 0x110000
theorem signs_of : ∀ {acc : List D}, (∀ y ∈ acc, IsSign y) → ∃ cs : List Nat, acc = cs.map (fun c => D.str ⟨#[c]⟩) ∧ ∀ c ∈ cs, c < 0x110000
  | [], _ => ⟨[], rfl, fun _ h => nomatch h⟩
  | y :: r, h => by
    obtain ⟨c, e, hc⟩ := h y List.mem_cons_self
    obtain ⟨cs, er, hr⟩ := signs_of (acc := r) fun z hz => h z (List.mem_cons_of_mem _ hz)
    exact ⟨c :: cs, by rw [e, er, List.map_cons], fun d hd => (List.mem_cons.mp hd).elim (fun q => by rw [q]; exact hc) (hr d)⟩
theorem strs_signs : ∀ cs : List Nat, strsD (cs.map fun c => D.str ⟨#[c]⟩) = some (cs.map fun c => tx [c])
  | [] => rfl
  | c :: r => by
    show (strsD (r.map fun c => D.str ⟨#[c]⟩)).map ((⟨#[c]⟩ : Str) :: ·) = _
    rw [strs_signs r]
    rfl
theorem joinL_ones : ∀ cs : List Nat, TL.joinL [] (cs.map fun c => [c]) = cs
  | [] => rfl
  | [_] => rfl
  | c :: d :: r => by
    show [c] ++ ([] ++ TL.joinL [] ((d :: r).map fun c => [c])) = _
    rw [joinL_ones (d :: r)]
    rfl
theorem join_signs (cs : List Nat) : Txt.join "" (cs.map fun c => tx [c]) = tx cs := by
  have e : (cs.map fun c => tx [c]) = (cs.map fun c => [c]).map fun l => tx l := by rw [List.map_map]; rfl
  rw [e, show ("" : Str) = tx [] from rfl]
  exact (SX.join_S [] (cs.map fun c => [c])).trans (by rw [joinL_ones])
theorem sum_ones (cs : List Nat) : ((cs.map fun c => tx [c]).map (·.length)).sum = cs.length := by
  induction cs with
  | nil => rfl
  | cons c r ih =>
    rw [List.map_cons, List.map_cons, List.sum_cons, ih, List.length_cons, tx_len]
    simp
    omega
theorem blsD_map {α : Type} (f : α → Bool) : ∀ xs : List α, blsD (xs.map fun x => D.bl (f x)) = some (xs.map f)
  | [] => rfl
  | x :: xs => by
    show (blsD (xs.map fun x => D.bl (f x))).map (f x :: ·) = _
    rw [blsD_map f xs]
    rfl
theorem all_id {α : Type} (f : α → Bool) (xs : List α) : (xs.map f).all id = xs.all f := by
  rw [List.all_map]
  rfl
theorem strD_filterMap {β : Type} (z : Str) (g : D → Option β) : (strD z).filterMap g = z.cps.toList.filterMap fun c => g (.str ⟨#[c]⟩) := by
  unfold strD
  rw [List.filterMap_map]
  rfl
theorem mem_strD {z : Str} {d : D} (h : d ∈ strD z) : ∃ c, c ∈ z.cps.toList ∧ d = .str ⟨#[c]⟩ := by
  obtain ⟨c, h1, h2⟩ := List.mem_map.mp h
  exact ⟨c, h1, h2.symm⟩
/-- the one sign of a text -/
def sign1 : D → Nat
  | .str z => z.cps.toList.headD 0
  | _ => 0
theorem sign1_one {c : Nat} : sign1 (.str ⟨#[c]⟩) = c := rfl
end DL
set_option Elab.async false
set_option linter.all false
set_option maxRecDepth 100000
set_option maxHeartbeats 4000000
namespace DL
open PySem PySem.Spec PyProof.Rows L2
/-! ### instances -/
/-- what the top has made of the c-th class -/
structure ClOk (T : Tb) (c : Nat) : Prop where
  cl : Cls T.K (T.cls c)
  no : ∀ f ∈ T.flds c, NoAttr T.K (T.cls c) f
  nd : (T.flds c).Nodup
  sm : (T.flds c).length < 1000
theorem zip_look {T : Tb} {G : GH} {H : Hp} {f : Str} : ∀ {fl : List Str} {ds : List D} {vs : List V} {d : D}, RVs T G H ds vs → (fl.zip ds).lookup f = some d → ∃ v, (fl.zip vs).lookup f = some v ∧ RV T G H d v
  | [], _, _, _, _, h => by simp at h
  | g :: fl, _, _, _, .nil, h => by simp at h
  | g :: fl, _, _, d, .cons a b, h => by
    rw [List.zip_cons_cons, List.lookup_cons] at h ⊢
    cases e : f == g with
    | true =>
      rw [e] at h
      cases h
      exact ⟨_, rfl, a⟩
    | false =>
      rw [e] at h
      exact zip_look b h
theorem zip_mem {α : Type} {f : Str} : ∀ {fl : List Str} {ds : List α} {d : α}, (fl.zip ds).lookup f = some d → f ∈ fl
  | [], _, _, h => by simp at h
  | g :: fl, [], _, h => by simp at h
  | g :: fl, x :: ds, d, h => by
    rw [List.zip_cons_cons, List.lookup_cons] at h
    cases e : f == g with
    | true => rw [eq_of_beq e]; exact List.mem_cons_self
    | false =>
      rw [e] at h
      exact List.mem_cons_of_mem _ (zip_mem h)
theorem zip_none {α : Type} {f : Str} {fl : List Str} {ds : List α} (h : f ∉ fl) : (fl.zip ds).lookup f = none := by
  cases e : (fl.zip ds).lookup f with
  | none => rfl
  | some d => exact absurd (zip_mem e) h
theorem putF_new {f : Str} {v : V} : ∀ {fs : List (Str × V)}, f ∉ fs.map (·.1) → putF f v fs = fs ++ [(f, v)]
  | [], _ => rfl
  | (g, x) :: r, h => by
    have h1 : ¬ g = f := fun e => h (by rw [← e]; exact List.mem_cons_self)
    have h2 : f ∉ r.map (·.1) := fun e => h (List.mem_cons_of_mem _ e)
    show (if g = f then (g, v) :: r else (g, x) :: putF f v r) = _
    rw [if_neg h1, putF_new h2]
    rfl
theorem zip_next {f : Str} {v : V} : ∀ {fl : List Str} {vs : List V}, fl.Nodup → fl[vs.length]? = some f → putF f v (fl.zip vs) = fl.zip (vs ++ [v])
  | [], vs, _, h => by simp at h
  | g :: fl, [], _, h => by
    have e : g = f := by simpa using h
    subst e
    show [(g, v)] = (g, v) :: fl.zip []
    rw [List.zip_nil_right]
  | g :: fl, x :: vs, nd, h => by
    have h' : fl[vs.length]? = some f := by simpa using h
    obtain ⟨n1, n2⟩ := List.nodup_cons.mp nd
    have hm : f ∈ fl := List.mem_of_getElem? h'
    have hg : ¬ g = f := fun e => n1 (by rw [e]; exact hm)
    show (if g = f then (g, v) :: fl.zip vs else (g, x) :: putF f v (fl.zip vs)) = (g, x) :: fl.zip (vs ++ [v])
    rw [if_neg hg, zip_next n2 h']
/-! ### o.f -/
/-- the field f of x: n classes, with the fields L -/
def fldO (n : Nat) (L : Nat → List Str) (f : Str) (x : D) (G : GH) (Q : DK) : Prop := match x with
  | .obj c vs => c < n ∧ ∃ d, ((L c).zip vs).lookup f = some d ∧ Q d G
  | .ref a => ∃ c vs, G a = some (.ins c vs) ∧ c < n ∧ ∃ d, ((L c).zip vs).lookup f = some d ∧ Q d G
  | _ => False
def wFld (n : Nat) (L : Nat → List Str) (f : Str) (te : TEd) : TEd := fun env G Q Ex => te env G (fun x G1 => fldO n L f x G1 Q) Ex
section
variable {T : Tb} {X : Cx} {W : WX} {n : Nat} {L : Nat → List Str} {f m : Str} {e o : Expr} {es : List Expr} {te to : TEd} {u : TAd} {pos pos' apos p : Pos}
theorem q_fld (hK : X.K = T.K) (hC : ∀ c, c < n → ClOk T c) (hL : T.flds = L) (he : QE T X W e te) (hb : attributeBase e f X.env (eval e X.env) = eval e X.env := by rfl) : QE T X W (.Attribute e f pos) (wFld n L f te) :=
  QE.of (pe_fld he.pe hb) fun env G σ H Q Ex Qv rs rh ex q k => intoE rs rh ex q fun x v G1 H1 rx rh1 k1 q1 => by
    subst hL
    rw [hK]
    cases rx with
    | obj g hx hl r =>
      rename_i c a dx xs ds
      obtain ⟨hc, d, hd, q1⟩ := q1
      obtain ⟨v, hv, rv⟩ := zip_look r hd
      exact ⟨_, _, _, _, v, rfl, hx, (hC c hc).cl, (hC c hc).no f (zip_mem hd), hv, k d v G1 H1 rv rh1 k1 q1⟩
    | ref a =>
      obtain ⟨c, vs, g, hc, d, hd, q1⟩ := q1
      obtain ⟨dx, xs, hx, hl, r⟩ := rh1 a _ g
      obtain ⟨v, hv, rv⟩ := zip_look r hd
      exact ⟨_, _, _, _, v, rfl, hx, (hC c hc).cl, (hC c hc).no f (zip_mem hd), hv, k d v G1 H1 rv rh1 k1 q1⟩
    | _ => exact False.elim q1
/-! ### self.f = e, in the order of the fields -/
def setF (n : Nat) (L : Nat → List Str) (f : Str) (x y : D) (G : GH) (Q : GH → Prop) : Prop := ∃ a c vs, x = .ref a ∧ G a = some (.ins c vs) ∧ c < n ∧ (L c)[vs.length]? = some f ∧ Q (gset G a (.ins c (vs ++ [y])))
def wSetF (n : Nat) (L : Nat → List Str) (f : Str) (to te : TEd) : TSd := fun De env G => te env G (fun y G1 => to env G1 (fun x G2 => setF n L f x y G2 fun G3 => De.nx env G3) (fun c ds G' => De.ex c ds env G')) (fun c ds G' => De.ex c ds env G')
theorem q_setF (hK : X.K = T.K) (hC : ∀ c, c < n → ClOk T c) (hL : T.flds = L) (ho : QE T X W o to) (he : QE T X W e te) (hs : swapsWith e (some (.Attribute o f pos')) pos.line X.env = pure false := by rfl) : QS T X W (.Assign [.Attribute o f pos'] e pos) (wSetF n L f to te) :=
  QS.of (ps_fld ho.pe he.pe hs) fun env G De Dv σ H rs rh ex en q => intoE rs rh (ex.at rs) q fun y v G1 H1 ry rh1 k1 q1 => intoE (rs.keep k1) rh1 ((ex.at rs).keep k1) q1 fun x xv G2 H2 rx rh2 k2 q2 => by
    subst hL
    rw [hK]
    obtain ⟨a, c, vs, e1, g, hc, hf, q3⟩ := q2
    subst e1
    cases rx
    obtain ⟨dx, xs, hx, hl, r⟩ := rh2 a _ g
    have C := hC c hc
    have hlen : ((T.flds c).zip xs).length < 1000 := by
      rw [List.length_zip]
      have := C.sm
      omega
    refine ⟨a, _, dx, _, rfl, hx, C.cl, C.no f (List.mem_of_getElem? hf), hlen, ?_⟩
    have ez := zip_next (v := v) C.nd (by rw [← r.length]; exact hf : (T.flds c)[xs.length]? = some f)
    rw [ez]
    have kp : Keep G2 H2 (gset G2 a (.ins c (vs ++ [y]))) (upd H2 a (.ins (T.cls c) dx ((T.flds c).zip (xs ++ [v])))) := Keep.put g
    refine en.nx _ _ _ _ (rs.keep ((k1.trans k2).trans kp)) (rh2.put (d := .ins c (vs ++ [y])) g ⟨dx, xs ++ [v], upd_same, ?_, ((r.append (.cons (ry.keep k2) .nil))).keep kp⟩) ((k1.trans k2).trans kp) q3
    have lt : xs.length < (T.flds c).length := by
      rw [← r.length]
      exact (List.getElem?_eq_some_iff.mp hf).1
    rw [List.length_append, List.length_singleton]
    omega
/-! ### o.m(..) -/
structure CalM (T : Tb) (P : Program) (w : World) (mg : Str → Option Value) (base : Heap) (c : Nat) (m : Str) (k : Nat) (sp : DSp) : Prop where
  ex : ∃ f fd ps, FnG P w T.K mg base (L2.CX P w) k f fd ps (liftSp T sp) ∧ Meth T.K (T.cls c) m f ∧ Binds T.K fd ps []
/-- x is an instance of the class c -/
def insO (c : Nat) (x : D) (G : GH) : Prop := (∃ vs, x = .obj c vs) ∨ ∃ a vs, x = .ref a ∧ G a = some (.ins c vs)
def wMeth (c : Nat) (sp : DSp) (to : TEd) (t : TAd) : TEd := fun env G Q Ex => to env G (fun x G1 => insO c x G1 ∧ t env G1 (fun ds G2 => sp (x :: ds) G2 Q Ex) Ex) Ex
theorem ins_at {G : GH} {H : Hp} {c : Nat} {x : D} {v : V} (rh : RH T G H) (r : RV T G H x v) (h : insO c x G) : ∃ a dx xs, v = .ref a ∧ H a = some (.ins (T.cls c) dx ((T.flds c).zip xs)) := by
  rcases h with ⟨vs, rfl⟩ | ⟨a, vs, rfl, g⟩
  · cases r with
    | obj g hx hl r => exact ⟨_, _, _, rfl, hx⟩
  · cases r
    obtain ⟨dx, xs, hx, _, _⟩ := rh a _ g
    exact ⟨a, dx, xs, rfl, hx⟩
variable {k c : Nat} {sp : DSp} {x : Str}
theorem q_meth {pl : Sem Bool} (tk : Takes X W) (hK : X.K = T.K) (C : CalM T X.prog X.w X.mg X.base c m k sp) (O : ClOk T c) (hm : m ∉ T.flds c) (hr : RoomG k X.A) (ho : QE T X W o to) (ha : QA T X W (e :: es) u)
    (hst : starEach (e :: es) X.env = (false, eval e X.env) :: starEach es X.env := by rfl) (hpl : (backTo pos (starEach es X.env)).any (·.1) = false := by rfl)
    (ht : eval (.Call (.Attribute o m apos) (e :: es) [] pos) X.env = (do
      let ov ← eval o X.env
      standAt apos.atName
      let (g, first) ← holding [ov] (getMethod ov m pl)
      callWith pos g first (backTo pos (starEach (e :: es) X.env)) (backToKw pos (keywordEach [] X.env))) := by rfl) :
    QE T X W (.Call (.Attribute o m apos) (e :: es) [] pos) (wMeth c sp to u) := by
  obtain ⟨f, fd, ps, F, hM, hb⟩ := C.ex
  have O1 := O.cl
  rw [← hK] at F hM hb O1
  refine ⟨⟨fun pins s σ H Qv I ⟨env, G, Q, Ex, rs, rh, ex, q, kq⟩ => ?_⟩⟩
  have q0 : liftE T W to σ H (fun v H1 => ∃ a dx xs, v = .ref a ∧ H1 a = some (.ins (T.cls c) dx ((T.flds c).zip xs)) ∧ liftA T W u σ H1 (fun vs H2 => liftSp T sp (v :: vs) H2 Qv (WE W σ))) :=
    intoE rs rh ex q fun x v G1 H1 rx rh1 k1 ⟨hi, q1⟩ => by
      obtain ⟨a, dx, xs, ev, hx⟩ := ins_at rh1 rx hi
      exact ⟨a, dx, xs, ev, hx, intoA (rs.keep k1) rh1 (ex.keep k1) q1 fun ds vs G2 H2 rds rh2 k2 q2 =>
        intoSp (.cons (rx.keep k2) rds) rh2 ((ex.keep k1).keep k2) q2 fun d w G' H' a b c d' => kq w H' ⟨d, G', a, b, (k1.trans k2).trans c, d'⟩⟩
  refine PySem.W.methodCall_KW (pl := pl) (thn (ho.pe.run pins s σ H _ I q0) fun u0 s1 ⟨x, H1, I1, rx, a, dx, xs, ev, hx, q1⟩ => ?_) ht
  subst ev
  cases rx
  refine getmeth_ok I1 hx O1 hM (zip_none hm) ?_
  refine PySem.W.callWith_K (first := [.ref a]) (h₀ := X.base) I.ok.mod.kin hM.kp (thn (ha.pa.run pos pins s1 σ H1 _ I1 q1) fun us s2 ⟨vs, H2, I2, r, q2⟩ => ⟨I2.kIn, ?_⟩) hst hpl
  refine run_G (us := .ref a :: us) (vs := .ref a :: vs) tk F hr hb .nil I2 (.cons rfl r) ?_
  rw [List.append_nil]
  exact q2
theorem q_meth0 {pl : Sem Bool} (tk : Takes X W) (hK : X.K = T.K) (C : CalM T X.prog X.w X.mg X.base c m k sp) (O : ClOk T c) (hm : m ∉ T.flds c) (hr : RoomG k X.A) (ho : QE T X W o to)
    (ht : eval (.Call (.Attribute o m apos) [] [] pos) X.env = (do
      let ov ← eval o X.env
      standAt apos.atName
      let (g, first) ← holding [ov] (getMethod ov m pl)
      callWith pos g first (backTo pos (starEach [] X.env)) (backToKw pos (keywordEach [] X.env))) := by rfl) :
    QE T X W (.Call (.Attribute o m apos) [] [] pos) (wMeth c sp to wNil) := by
  obtain ⟨f, fd, ps, F, hM, hb⟩ := C.ex
  have O1 := O.cl
  rw [← hK] at F hM hb O1
  refine ⟨⟨fun pins s σ H Qv I ⟨env, G, Q, Ex, rs, rh, ex, q, kq⟩ => ?_⟩⟩
  have q0 : liftE T W to σ H (fun v H1 => ∃ a dx xs, v = .ref a ∧ H1 a = some (.ins (T.cls c) dx ((T.flds c).zip xs)) ∧ liftSp T sp [v] H1 Qv (WE W σ)) :=
    intoE rs rh ex q fun x v G1 H1 rx rh1 k1 ⟨hi, q1⟩ => by
      obtain ⟨a, dx, xs, ev, hx⟩ := ins_at rh1 rx hi
      exact ⟨a, dx, xs, ev, hx, intoSp (.cons rx .nil) rh1 (ex.keep k1) q1 fun d w G' H' a b c d' => kq w H' ⟨d, G', a, b, k1.trans c, d'⟩⟩
  refine PySem.W.methodCall_KW (pl := pl) (thn (ho.pe.run pins s σ H _ I q0) fun u0 s1 ⟨x, H1, I1, rx, a, dx, xs, ev, hx, q1⟩ => ?_) ht
  subst ev
  cases rx
  refine getmeth_ok I1 hx O1 hM (zip_none hm) ?_
  refine PySem.W.callWith_K0 (first := [.ref a]) I1.kIn hM.kp (run_G (us := [.ref a]) (vs := [.ref a]) tk F hr hb .nil I1 (.cons rfl .nil) ?_)
  exact q1
/-! ### C(..) -/
structure CalC (T : Tb) (P : Program) (w : World) (mg : Str → Option Value) (base : Heap) (x : Str) (c k : Nat) (sp : DSp) : Prop where
  ex : ∃ f fd ps, FnG P w T.K mg base (L2.CX P w) k f fd ps (liftSp T sp) ∧ Mk T.K (T.cls c) f ∧ mg x = some (.ref (T.cls c)) ∧ Binds T.K fd ps []
/-- the new instance may be changed | is not changed any more -/
def wMakeM (c : Nat) (sp : DSp) (t : TAd) : TEd := fun env G Q Ex => t env G (fun ds G1 => ∀ a, G1 a = none → sp (.ref a :: ds) (gset G1 a (.ins c [])) (fun v G2 => v = .non ∧ Q (.ref a) G2) Ex) Ex
def wMake (n : Nat) (L : Nat → List Str) (c : Nat) (sp : DSp) (t : TAd) : TEd := fun env G Q Ex => wMakeM c sp t env G (fun d G2 => ∃ a vs, d = .ref a ∧ G2 a = some (.ins c vs) ∧ vs.length = (L c).length ∧ Q (.obj c vs) (gdel G2 a)) Ex
theorem RoomG.make {j : Nat} {A : Around} (r : RoomG (j + 1) A) (C : Addr) (us : List Value) (kw : List (Str × Value)) : RoomG j (A.under (.builtin "type.__call__" ⟨.ref C :: us, kw⟩)) := ⟨r.r.make C us kw, by
  first
    | exact r.g
    | (have := r.g; simpa [Around.under] using this)⟩
/-- Q stands for what the caller wants of the new instance -/
theorem run_makeG {f C : Addr} {fd : FuncData} {ps : List Str} {pins : List (Addr × Obj)} {σ : List (Option V)} {H : Hp} {s : Shared} {Qv : VK} {us : List Value} {vs : List V} {sp0 : Sp} (tk : Takes X W) (M : Mk X.K C f) (F : FnG X.prog X.w X.K X.mg X.base (L2.CX X.prog X.w) k f fd ps sp0) (hr : RoomG (k + 1) X.A) (hb : Binds X.K fd ps [])
    (I : Inv X pins σ H s) (r : Vals vs us)
    (h : ∀ x dx, H x = none → H dx = none → dx ≠ x → sp0 (.ref x :: vs) (upd (upd H dx (.own x)) x (.ins C dx [])) (fun v H2 => v = .non ∧ Qv (.ref x) H2) (WE W σ)) :
    wpAny (model X.prog X.w) X.A (call (.ref C) us) (EP X pins σ Qv) X.xe s := by
  have hq := h (s.heap.objs.size + 1) s.heap.objs.size (I.hok.fresh (Nat.le_succ _)) (I.hok.fresh (Nat.le_refl _)) (Nat.ne_of_lt (Nat.lt_succ_self _))
  have I2 := Inv.made (C := C) I
  have r2 : Vals (V.ref (s.heap.objs.size + 1) :: vs) (Value.ref (s.heap.objs.size + 1) :: us) := .cons rfl r
  have hl : ((Value.ref (s.heap.objs.size + 1) :: us) ++ []).length = ps.length := by
    rw [List.append_nil]
    exact r2.length.symm.trans (F.len _ _ _ _ hq)
  have bd := hb { s with heap := (s.heap.push PySem.W.emptyDict).push (PySem.W.instObj C s.heap.objs.size) } (Value.ref (s.heap.objs.size + 1) :: us) I2.kIn hl
  rw [List.append_nil] at bd
  refine wpAny_call (make_map (f := f) I.kIn M.makes M.init (beq_iff_eq.mp M.fn) (codeAny_mono (F.run _ X.stack _ _ ⟨Value.ref (s.heap.objs.size + 1) :: us, []⟩ _ _ _ (WE W σ) (hr.make C us []) (I2.env0.make C us []) bd r2 hq) fun res s' hq' => ?_))
  rcases res with er | (fl | fl | fl | fl)
  · exact passAt tk σ pins _ _ er s' I2 hq'
  all_goals first
    | exact False.elim hq'
    | (obtain ⟨v, H', I3, rv, ev, q3⟩ := I2.after hq'
       subst ev
       exact ⟨rv, ⟨V.ref (s.heap.objs.size + 1), H', I3, rfl, q3⟩⟩)
end
end DL
set_option Elab.async false
set_option linter.all false
set_option maxRecDepth 100000
set_option maxHeartbeats 4000000
namespace DL
open PySem PySem.Spec PyProof.Rows L2
section
variable {T : Tb} {X : Cx} {W : WX} {n : Nat} {L : Nat → List Str} {f m : Str} {e o : Expr} {es : List Expr} {te to : TEd} {u : TAd} {pos pos' apos p : Pos} {k c : Nat} {sp : DSp} {x : Str}
theorem Keep.ins {G : GH} {H : Hp} {x dx : Addr} {c C : Nat} (nx : H x = none) (nd : H dx = none) (ne : dx ≠ x) : Keep G H (gset G x (.ins c [])) (upd (upd H dx (.own x)) x (.ins C dx [])) := fun b ob g h => by
  have h1 : b ≠ x := ne_of_none h nx
  have h2 : b ≠ dx := ne_of_none h nd
  exact ⟨by rw [upd_ne h1, upd_ne h2]; exact h, by rw [gset_ne h1]; exact g⟩
theorem RH.ins {G : GH} {H : Hp} {x dx : Addr} {c : Nat} (rh : RH T G H) (nx : H x = none) (nd : H dx = none) (ne : dx ≠ x) : RH T (gset G x (.ins c [])) (upd (upd H dx (.own x)) x (.ins (T.cls c) dx [])) := fun b ob g => by
  by_cases hb : b = x
  · subst hb
    rw [gset_same] at g
    cases g
    exact ⟨dx, [], by rw [upd_same, List.zip_nil_right], Nat.zero_le _, .nil⟩
  · rw [gset_ne hb] at g
    have hd : b ≠ dx := by rintro rfl; rw [rh.fresh nd] at g; cases g
    exact (rh b ob g).keep (Keep.ins nx nd ne) (by rw [upd_ne hb, upd_ne hd])
/-- what a making asks, in the words below -/
theorem make_in {ds : List D} {vs : List V} {G : GH} {H : Hp} {σ : List (Option V)} {Ex : DX} {Qv : VK} {fin : DK} (rds : RVs T G H ds vs) (rh : RH T G H) (ex : ExOk T W G H σ Ex)
    (q : ∀ a, G a = none → sp (.ref a :: ds) (gset G a (.ins c [])) (fun v G2 => v = .non ∧ fin (.ref a) G2) Ex)
    (kq : ∀ a G' H', RH T G' H' → Keep G H G' H' → G a = none → fin (.ref a) G' → Qv (.ref a) H') :
    ∀ x dx, H x = none → H dx = none → dx ≠ x → liftSp T sp (.ref x :: vs) (upd (upd H dx (.own x)) x (.ins (T.cls c) dx [])) (fun v H2 => v = .non ∧ Qv (.ref x) H2) (WE W σ) := fun x dx nx nd ne => by
  have kp : Keep G H (gset G x (.ins c [])) (upd (upd H dx (.own x)) x (.ins (T.cls c) dx [])) := Keep.ins nx nd ne
  refine intoSp (.cons (.ref x) (rds.keep kp)) (rh.ins nx nd ne) (ex.keep kp) (q x (rh.fresh nx)) fun d v G' H' rv rh' k' ⟨ed, q'⟩ => ?_
  subst ed
  cases rv
  exact ⟨rfl, kq x G' H' rh' (kp.trans k') (rh.fresh nx) q'⟩
theorem q_makeM (tk : Takes X W) (hK : X.K = T.K) (C : CalC T X.prog X.w X.mg X.base x c k sp) (hr : RoomG (k + 1) X.A) (ha : QA T X W (e :: es) u) (hg : Gl X x := by rfl) (hdb : (x == ("__debug__" : Str)) = false := by decide)
    (he : starEach (e :: es) X.env = (false, eval e X.env) :: starEach es X.env := by rfl) (hpl : (backTo pos (starEach es X.env)).any (·.1) = false := by rfl) : QE T X W (.Call (.Name x p) (e :: es) [] pos) (wMakeM c sp u) := by
  obtain ⟨f, fd, ps, F, M, hm, hb⟩ := C.ex
  rw [← hK] at F M hb
  refine ⟨⟨fun pins s σ H Qv I ⟨env, G, Q, Ex, rs, rh, ex, q, kq⟩ => ?_⟩⟩
  refine wpAny_Call_Name_kw (ld_glob I hg hm ?_ hdb)
  have q' : liftA T W u σ H (fun vs H1 => ∀ x dx, H1 x = none → H1 dx = none → dx ≠ x → liftSp T sp (.ref x :: vs) (upd (upd H1 dx (.own x)) x (.ins (T.cls c) dx [])) (fun v H2 => v = .non ∧ Qv (.ref x) H2) (WE W σ)) :=
    intoA rs rh ex q fun ds vs G1 H1 rds rh1 k1 q1 => make_in (fin := fun d G2 => Q d G2) rds rh1 (ex.keep k1) q1 fun a G' H' rh' k' _ q2 => kq _ H' ⟨.ref a, G', .ref a, rh', k1.trans k', q2⟩
  refine PySem.W.callWith_K (h₀ := X.base) I.ok.mod.kin M.kp (thn (ha.pa.run pos pins s σ H _ I q') fun us s1 ⟨vs, H1, I1, r, q2⟩ => ⟨I1.kIn, ?_⟩) he hpl
  exact run_makeG tk M F hr hb I1 r q2
theorem q_make (tk : Takes X W) (hK : X.K = T.K) (hL : T.flds = L) (C : CalC T X.prog X.w X.mg X.base x c k sp) (hr : RoomG (k + 1) X.A) (ha : QA T X W (e :: es) u) (hg : Gl X x := by rfl) (hdb : (x == ("__debug__" : Str)) = false := by decide)
    (he : starEach (e :: es) X.env = (false, eval e X.env) :: starEach es X.env := by rfl) (hpl : (backTo pos (starEach es X.env)).any (·.1) = false := by rfl) : QE T X W (.Call (.Name x p) (e :: es) [] pos) (wMake n L c sp u) := by
  refine ⟨PE.imp (q_makeM (sp := sp) (c := c) tk hK C hr ha hg hdb he hpl).pe fun σ H Qv ⟨env, G, Q, Ex, rs, rh, ex, q, kq⟩ => ?_⟩
  subst hL
  -- the instance as it stands is held to be fixed
  refine ⟨env, G, fun d G2 => ∃ a vs, d = .ref a ∧ G2 a = some (.ins c vs) ∧ vs.length = (T.flds c).length ∧ Q (.obj c vs) (gdel G2 a), Ex, rs, rh, ex, q, fun v H' ⟨d, G', rd, rh', k', a, vs, ed, g, hl, q2⟩ => ?_⟩
  · subst ed
    cases rd
    obtain ⟨dx, xs, hx, hl2, r⟩ := rh' a _ g
    exact kq _ _ ⟨.obj c vs, gdel G' a, .obj gdel_same hx (by rw [← r.length, hl]) (r.keep Keep.freeze), rh'.freeze a, k'.trans Keep.freeze, q2⟩
end
end DL
set_option Elab.async false
set_option linter.all false
set_option maxRecDepth 100000
set_option maxHeartbeats 4000000
namespace DL
open PySem PySem.Spec PyProof.Rows L2
section
variable {T : Tb} {X : Cx} {W : WX} {e o tg a b : Expr} {es : List Expr} {te to ta tb : TEd} {u : TAd} {st : Stmt} {sts : List Stmt} {pos p apos tpos : Pos}
/-! ### what is never reached -/
def wNever : TEd := fun _ _ _ _ => False
def wNeverS : TSd := fun _ _ _ => False
theorem q_never : QE T X W e wNever := ⟨⟨fun pins s σ H Q I ⟨_, _, _, _, _, _, _, q, _⟩ => q.elim⟩⟩
theorem q_neverS : QS T X W st wNeverS := ⟨⟨fun pins s σ H D I ⟨_, _, _, _, _, _, _, q⟩ => q.elim⟩⟩
theorem qs_never : QSs T X W sts wNeverS := ⟨⟨fun pins s σ H D I ⟨_, _, _, _, _, _, _, q⟩ => q.elim⟩⟩
/-! ### a variable whose list is held to be fixed from now on -/
def frzO (x : D) (G : GH) (Q : DK) : Prop := match x with
  | .ref a => ∃ ds, G a = some (.lst ds) ∧ Q (.lst ds) (gdel G a)
  | _ => False
/-- what e tells, a list that may change so far, is held to be fixed -/
def wFrz (te : TEd) : TEd := fun env G Q Ex => te env G (fun x G1 => frzO x G1 Q) Ex
theorem q_frz (h : QE T X W e te) : QE T X W e (wFrz te) :=
  ⟨PE.imp h.pe fun σ H Qv ⟨env, G, Q, Ex, rs, rh, ex, q, kq⟩ => ⟨env, G, fun x G1 => frzO x G1 Q, Ex, rs, rh, ex, q, fun v H' ⟨d, G', rd, rh', k', q'⟩ => by
    cases rd with
    | ref a =>
      obtain ⟨ds, g, q'⟩ := q'
      obtain ⟨xs, hx, l, r⟩ := rh' a _ g
      exact kq _ _ ⟨.lst ds, gdel G' a, .lst gdel_same hx l (r.keep Keep.freeze), rh'.freeze a, k'.trans Keep.freeze, q'⟩
    | _ => exact False.elim q'⟩⟩
/-! ### list(x), tuple(x) -/
def seqD (G : GH) : D → Option (List D)
  | .tup ds => some ds
  | .lst ds => some ds
  | .frl ds => some ds
  | .ref a => lstAt (G a)
  | _ => none
def listO : OL := fun ds G Q => match ds with
  | [x] => ∃ xs, seqD G x = some xs ∧ xs.length ≤ sizeLine ∧ ∀ p, G p = none → Q (.ref p) (gset G p (.lst xs))
  | _ => False
def listFO : OL := fun ds G Q => match ds with
  | [x] => ∃ xs, seqD G x = some xs ∧ xs.length ≤ sizeLine ∧ Q (.lst xs) G
  | _ => False
def tupleO : OL := fun ds G Q => match ds with
  | [x] => ∃ xs, seqD G x = some xs ∧ xs.length ≤ sizeLine ∧ Q (.tup xs) G
  | _ => False
theorem seq_at {G : GH} {H : Hp} {x : D} {v : V} {xs : List D} (rh : RH T G H) (r : RV T G H x v) (h : seqD G x = some xs) : ∃ a vs, v = .ref a ∧ (SqL T.K H a vs ∨ SqT T.K H a vs) ∧ RVs T G H xs vs := by
  cases r with
  | tup hx l r => cases h; exact ⟨_, _, rfl, .inr hx.sq, r⟩
  | lst g hx l r => cases h; exact ⟨_, _, rfl, .inl (SqL.of hx), r⟩
  | frl hx l r => cases h; exact ⟨_, _, rfl, .inl hx.sq, r⟩
  | ref a =>
    have g := lstAt_some (show lstAt (G a) = some xs from h)
    obtain ⟨vs, hx, _, r⟩ := rh a _ g
    exact ⟨_, _, rfl, .inl (SqL.of hx), r⟩
  | _ => cases h
abbrev rListOf (K : PySem.W.Frag) : List V → Hp → VK → Prop := fun xs H Q => ∃ p ys, xs = [.ref p] ∧ (SqL K H p ys ∨ SqT K H p ys) ∧ ∀ l, H l = none → Q (.ref l) (upd H l (.lst ys))
theorem ci_list {K : PySem.W.Frag} (hK : K = T.K) : CallI T (rListOf K) listO := by
  intro G H ds vs Q Qv rh r q k
  subst hK
  rcases r with _ | ⟨rx, _ | ⟨_, _⟩⟩
  · exact False.elim q
  · obtain ⟨xs, e, l, q⟩ := q
    obtain ⟨a, ys, rfl, hs, r⟩ := seq_at rh rx e
    exact ⟨a, ys, rfl, hs, fun p np => k _ _ _ _ (.ref p) (rh.newG (d := .lst xs) np ⟨ys, upd_same, l, r.keep (Keep.newG np)⟩) (Keep.newG np) (q p (rh.fresh np))⟩
  · exact False.elim q
theorem ci_listF {K : PySem.W.Frag} (hK : K = T.K) : CallI T (rListOf K) listFO := by
  intro G H ds vs Q Qv rh r q k
  subst hK
  rcases r with _ | ⟨rx, _ | ⟨_, _⟩⟩
  · exact False.elim q
  · obtain ⟨xs, e, l, q⟩ := q
    obtain ⟨a, ys, rfl, hs, r⟩ := seq_at rh rx e
    exact ⟨a, ys, rfl, hs, fun p np => k _ _ _ _ (.lst (rh.fresh np) upd_same l (r.keep (Keep.new np))) (rh.new np) (Keep.new np) q⟩
  · exact False.elim q
abbrev rTupleOf (K : PySem.W.Frag) : List V → Hp → VK → Prop := fun xs H Q => ∃ p ys, xs = [.ref p] ∧ ((SqL K H p ys ∧ ∀ l, H l = none → Q (.ref l) (upd H l (.tup ys))) ∨ (SqT K H p ys ∧ Q (.ref p) H))
theorem ci_tuple {K : PySem.W.Frag} (hK : K = T.K) : CallI T (rTupleOf K) tupleO := by
  intro G H ds vs Q Qv rh r q k
  subst hK
  rcases r with _ | ⟨rx, _ | ⟨_, _⟩⟩
  · exact False.elim q
  · obtain ⟨xs, e, l, q⟩ := q
    have new : ∀ {a : Addr} {ys : List V}, SqL T.K H a ys → RVs T G H xs ys → rTupleOf T.K [.ref a] H Qv := fun {a ys} hs r => ⟨a, ys, rfl, .inl ⟨hs, fun p np => k _ _ G _ (.tup ⟨rh.fresh np, .inl upd_same⟩ l (r.keep (Keep.new np))) (rh.new np) (Keep.new np) q⟩⟩
    cases rx with
    | tup hx l r =>
      cases e
      exact ⟨_, _, rfl, .inr ⟨hx.sq, k _ _ G H (.tup hx l r) rh (Keep.refl _ _) q⟩⟩
    | lst g hx l r => cases e; exact new (SqL.of hx) r
    | frl hx l r => cases e; exact new hx.sq r
    | ref a =>
      have g := lstAt_some (show lstAt (G a) = some xs from e)
      obtain ⟨ys, hx, _, r⟩ := rh a _ g
      exact new (SqL.of hx) r
    | _ => cases e
  · exact False.elim q
/-! ### int(x), sum(xs) -/
def intSO : OL := fun ds G Q => match ds with
  | [.str z] => ∃ n, PySem.intText? z = some n ∧ z.length ≤ 640 ∧ Q (.int n) G
  | _ => False
theorem ci_intS : CallI T (fun xs H Q => ∃ a n, xs = [.str a] ∧ PySem.intText? a = some n ∧ a.length ≤ 640 ∧ Q (.int n) H) intSO := by
  intro G H ds vs Q Qv rh r q k
  rcases r with _ | ⟨rx, _ | ⟨_, _⟩⟩
  · exact False.elim q
  · cases rx with
    | str z =>
      obtain ⟨n, h1, h2, q⟩ := q
      exact ⟨z, n, rfl, h1, h2, k _ _ G H (.int _) rh (Keep.refl _ _) q⟩
    | _ => exact False.elim q
  · exact False.elim (by rename_i a b; cases rx <;> exact q)
def intsD : List D → Option (List Int)
  | [] => some []
  | .int i :: r => (intsD r).map (i :: ·)
  | _ :: _ => none
theorem ints_of {G : GH} {H : Hp} : ∀ {ds : List D} {vs : List V} {ns : List Int}, RVs T G H ds vs → intsD ds = some ns → vs = ns.map V.int
  | [], _, _, .nil, h => by cases h; rfl
  | d :: ds, _, ns, .cons a b, h => by
    cases d with
    | int i =>
      unfold intsD at h
      cases e : intsD ds with
      | none => rw [e] at h; cases h
      | some cs =>
        rw [e] at h
        cases h
        cases a
        rw [ints_of b e]
        rfl
    | _ => cases h
def sumO : OL := fun ds G Q => match ds with
  | [x] => ∃ xs, topD G x = .lst xs ∧ ∃ ns, intsD xs = some ns ∧ Q (.int ns.sum) G
  | _ => False
theorem ci_sum {K : PySem.W.Frag} (hK : K = T.K) : CallI T (rSum K) sumO := by
  intro G H ds vs Q Qv rh r q k
  subst hK
  rcases r with _ | ⟨rx, _ | ⟨_, _⟩⟩
  · exact False.elim q
  · obtain ⟨xs, e, ns, hn, q⟩ := q
    obtain ⟨a, us, rfl, hx, r⟩ := topD_lst rh rx e
    have := ints_of r hn
    subst this
    exact ⟨a, ns, rfl, SqL.of hx, k _ _ G H (.int _) rh (Keep.refl _ _) q⟩
  · exact False.elim q
/-! ### for at, x in enumerate(xs) -/
def enumD (ds : List D) : List D := ds.zipIdx.map fun p => .tup [.int p.2, p.1]
theorem enum_len (ds : List D) : (enumD ds).length = ds.length := by unfold enumD; rw [List.length_map, List.length_zipIdx]
theorem enum_get {ds : List D} {i : Nat} {d : D} (h : (enumD ds)[i]? = some d) : ∃ x, ds[i]? = some x ∧ d = .tup [.int (i : Int), x] := by
  unfold enumD at h
  rw [List.getElem?_map, List.getElem?_zipIdx] at h
  cases e : ds[i]? with
  | none => rw [e] at h; cases h
  | some x =>
    rw [e] at h
    cases h
    exact ⟨x, rfl, by rw [Nat.zero_add]⟩
def wiEnum (ta : TAd) : TId := fun env G Q Ex => ta env G (fun ds G1 => ∃ x, ds = [x] ∧ itO x G1 fun xs stay G2 => Q (enumD xs) stay G2) Ex
theorem src_enum {K : PySem.W.Frag} (hK : K = T.K) {G0 : GH} {H0 : Hp} {a : Addr} {ds : List D} {stay : GH → Prop} (hl : ds.length ≤ sizeLine)
    (h : ∀ G H, Keep G0 H0 G H → RH T G H → stay G → ∃ xs, SqL K H a xs ∧ RVs T G H ds xs) : SrcOk T G0 H0 (Ite K a) (enumD ds) stay := by
  refine ⟨by rw [enum_len]; exact hl, fun G H k rh st i hi => ?_, fun G H k rh st i d x H' hd hy => ?_, fun G H k rh st i hi => ?_⟩
  · obtain ⟨xs, h1, r⟩ := h G H k rh st
    rw [enum_len] at hi
    obtain ⟨v, hv, _⟩ := r.get (i := i) (d := ds[i]) (List.getElem?_eq_getElem hi)
    exact ⟨xs, v, h1, hv⟩
  · obtain ⟨xs, h1, r⟩ := h G H k rh st
    obtain ⟨y, hy0, ed⟩ := enum_get hd
    subst ed
    obtain ⟨v, hv, rv⟩ := r.get hy0
    obtain ⟨t, z, ex, nt, eH, hz⟩ := hy
    subst ex eH
    have hz := hz xs h1
    rw [hv] at hz
    cases hz
    exact ⟨.tup (xs := [.int (i : Nat), v]) ⟨rh.fresh nt, .inl upd_same⟩ (by show 2 ≤ sizeLine; decide) (.cons (.int _) (.cons (rv.keep (Keep.new nt)) .nil)), rh.new nt, Keep.new nt⟩
  · obtain ⟨xs, h1, r⟩ := h G H k rh st
    rw [enum_len] at hi
    exact ⟨xs, h1, by rw [← r.length]; exact hi⟩
theorem qi_enum {elts : List Expr} {kk : Nat} (hK : X.K = T.K) (hm : X.mg "enumerate" = none) (ha : QA T X W [e] u) (hg : Gl X "enumerate" := by rfl) (hs : starEach [e] X.env = [(false, eval e X.env)] := by rfl) : QI T X W (.Tuple elts kk tpos) (.Call (.Name "enumerate" p) [e] [] pos) (wiEnum u) :=
  ⟨PI.imp (pi_enum hg hm ha.pa hs) fun σ H R ⟨env, G, Q, Ex, rs, rh, ex, q, k⟩ => intoA rs rh ex q fun ds vs G1 H1 rds rh1 k1 ⟨x, ed, q1⟩ => by
    subst ed
    rw [hK]
    rcases rds with _ | ⟨rx, _ | ⟨_, _⟩⟩
    cases rx with
    | lst g hx l r => exact ⟨_, _, rfl, SqL.of hx, k _ _ always _ _ rh1 k1 (src_enum rfl l fun G H kk _ _ => ⟨_, SqL.of (kk _ _ g hx).1, r.keep kk⟩) q1⟩
    | frl hx l r => exact ⟨_, _, rfl, hx.sq, k _ _ always _ _ rh1 k1 (src_enum rfl l fun G H kk _ _ => ⟨_, (kk.fzL hx).sq, r.keep kk⟩) q1⟩
    | ref a =>
      obtain ⟨ds, g, q1⟩ := q1
      obtain ⟨xs, hx, l, r⟩ := rh1 a _ g
      exact ⟨_, _, rfl, SqL.of hx, k _ _ (fun G => G a = some (.lst ds)) _ _ rh1 k1 (src_enum rfl l fun G H kk rhh st => let ⟨ys, hy, _, r'⟩ := rhh a _ st; ⟨ys, SqL.of hy, r'⟩) q1⟩
    | _ => exact False.elim q1⟩
/-! ### a dict's item -/
def lookK : List Key → List D → Key → Option D
  | g :: ks, d :: ds, k => if g = k then some d else lookK ks ds k
  | _, _, _ => none
def dgetO : O2 := fun x y G Q => match x with
  | .dic ks vs => ∃ k, keyD y = some k ∧ ∃ d, lookK ks vs k = some d ∧ Q d G
  | .ref a => ∃ ks vs, G a = some (.dic ks vs) ∧ ∃ k, keyD y = some k ∧ ∃ d, lookK ks vs k = some d ∧ Q d G
  | _ => False
def wGet (to ti : TEd) : TEd := fun env G Q Ex => to env G (fun x G1 => ti env G1 (fun y G2 => dgetO x y G2 Q) Ex) Ex
theorem zip_lookK {G : GH} {H : Hp} {k : Key} : ∀ {ks : List Key} {ds : List D} {vs : List V} {d : D}, RVs T G H ds vs → lookK ks ds k = some d → ∃ v, valV (ks.zip vs) k = some v ∧ RV T G H d v
  | [], _, _, _, _, h => by unfold lookK at h; cases h
  | g :: ks, _, _, _, .nil, h => by unfold lookK at h; cases h
  | g :: ks, _, _, d, .cons a b, h => by
    unfold lookK at h
    unfold valV
    rw [List.zip_cons_cons, List.find?_cons]
    by_cases e : g = k
    · rw [if_pos e] at h
      cases h
      rw [decide_eq_true e]
      exact ⟨_, rfl, a⟩
    · rw [if_neg e] at h
      rw [decide_eq_false e]
      exact zip_lookK b h
theorem key_val {G : GH} {H : Hp} {y : D} {v : V} {k : Key} (r : RV T G H y v) (h : keyD y = some k) : v = kV k := by
  cases r with
  | int i => cases h; rfl
  | str x => cases h; rfl
  | _ => cases h
theorem q_get {i : Expr} {ti : TEd} (hu : X.A.units + 64 < cLine) (ho : QE T X W o to) (hi : QE T X W i ti) (hs : NoSl i := by intro _; rfl) : QE T X W (.Subscript o i pos) (wGet to ti) :=
  QE.of (pe_dget (by omega) ho.pe hi.pe hs) fun env G σ H Q Ex Qv rs rh ex q k => intoE rs rh ex q fun x xv G1 H1 rx rh1 k1 q1 => intoE (rs.keep k1) rh1 (ex.keep k1) q1 fun y yv G2 H2 ry rh2 k2 q2 => by
    have rx := rx.keep k2
    cases rx with
    | dic g hx e l r =>
      obtain ⟨kk, hk, d, hd, q2⟩ := q2
      obtain ⟨v, hv, rv⟩ := zip_lookK r hd
      exact ⟨_, v, rfl, .inl ⟨_, kk, .inl hx, key_val ry hk, by rw [e]; exact hv.symm⟩, k d v G2 H2 rv rh2 (k1.trans k2) q2⟩
    | ref a =>
      obtain ⟨ks, vs, g, kk, hk, d, hd, q2⟩ := q2
      obtain ⟨xs, hx, l, r⟩ := rh2 a _ g
      obtain ⟨v, hv, rv⟩ := zip_lookK r hd
      exact ⟨_, v, rfl, .inl ⟨_, kk, .inl hx, key_val ry hk, hv.symm⟩, k d v G2 H2 rv rh2 (k1.trans k2) q2⟩
    | _ => exact False.elim q2
/-! ### methods of lists and texts -/
/-- a method of a list that stands at a and holds xs -/
abbrev OML := Addr → List D → List D → GH → DK → Prop
def MlI (T : Tb) (r0 : V → List V → Hp → VK → Prop) (o : OML) : Prop := ∀ G H a xs ds vs (Q : DK) (Qv : VK), RH T G H → G a = some (.lst xs) → RVs T G H ds vs → o a xs ds G Q → (∀ d w G' H', RV T G' H' d w → RH T G' H' → Keep G H G' H' → Q d G' → Qv w H') → r0 (.ref a) vs H Qv
theorem q_ml {name : Str} {r0 : V → List V → Hp → VK → Prop} {om : OML} {cpos : Pos} (mi : MlI T r0 om) (h : PE X (.Call (.Attribute o name apos) (e :: es) [] cpos) (tBM X.K "list" r0 (liftE T W to) (liftA T W u))) : QE T X W (.Call (.Attribute o name apos) (e :: es) [] cpos) (wML om to u) :=
  QE.of h fun env G σ H Q Ex Qv rs rh ex q k => intoE rs rh ex q fun x v G1 H1 rx rh1 k1 ⟨a, xs0, ez, g0, q1⟩ => by
    subst ez
    cases rx
    obtain ⟨vs0, hx0, _, _⟩ := rh1 a _ g0
    exact ⟨.inl ⟨rfl, vs0, SqL.of hx0⟩, intoA (rs.keep k1) rh1 (ex.keep k1) q1 fun ds vs G2 H2 rds rh2 k2 ⟨xs, g2, q2⟩ =>
      mi G2 H2 a xs ds vs Q Qv rh2 g2 rds q2 fun d w G' H' rd rh3 k3 q3 => k d w G' H' rd rh3 ((k1.trans k2).trans k3) q3⟩
def wML0 (om : OML) (to : TEd) : TEd := fun env G Q Ex => to env G (fun x G1 => ∃ a xs, x = .ref a ∧ G1 a = some (.lst xs) ∧ om a xs [] G1 Q) Ex
theorem q_ml0 {name : Str} {r0 : V → List V → Hp → VK → Prop} {om : OML} {cpos : Pos} (mi : MlI T r0 om) (h : PE X (.Call (.Attribute o name apos) [] [] cpos) (tBM0 X.K "list" r0 (liftE T W to))) : QE T X W (.Call (.Attribute o name apos) [] [] cpos) (wML0 om to) :=
  QE.of h fun env G σ H Q Ex Qv rs rh ex q k => intoE rs rh ex q fun x v G1 H1 rx rh1 k1 ⟨a, xs, ez, g0, q1⟩ => by
    subst ez
    cases rx
    obtain ⟨vs0, hx0, _, _⟩ := rh1 a _ g0
    exact ⟨.inl ⟨rfl, vs0, SqL.of hx0⟩, mi G1 H1 a xs [] [] Q Qv rh1 g0 .nil q1 fun d w G' H' rd rh3 k3 q3 => k d w G' H' rd rh3 (k1.trans k3) q3⟩
def popAtO : OML := fun a xs ds G Q => ∃ i : Int, ds = [.int i] ∧ 0 ≤ i ∧ ∃ d, xs[i.toNat]? = some d ∧ Q d (gset G a (.lst (xs.eraseIdx i.toNat)))
theorem RVs.erase {G : GH} {H : Hp} : ∀ {ds : List D} {vs : List V} (n : Nat), RVs T G H ds vs → RVs T G H (ds.eraseIdx n) (vs.eraseIdx n)
  | _, _, _, .nil => .nil
  | _, _, 0, .cons _ t => t
  | _, _, n + 1, .cons r t => .cons r (RVs.erase n t)
theorem mi_popAt : MlI T rPopAt popAtO := by
  intro G H a xs ds vs Q Qv rh g r ⟨i, ed, h0, d, hd, q⟩ k
  subst ed
  rcases r with _ | ⟨ri, _ | ⟨_, _⟩⟩
  cases ri
  obtain ⟨ys, hy, l, rr⟩ := rh a _ g
  obtain ⟨v, hv, rv⟩ := rr.get hd
  have hlt : i.toNat < ys.length := (List.getElem?_eq_some_iff.mp hv).1
  have l63 := line63
  have lz : ys.length ≤ sizeLine := by rw [← rr.length]; exact l
  have ix : seqIndex? i ys.length = some i.toNat := (ixN_seq (ixN_get h0 (by omega))).1
  have kp : Keep G H (gset G a (.lst (xs.eraseIdx i.toNat))) (upd H a (.lst (ys.eraseIdx i.toNat))) := Keep.put g
  refine ⟨a, ys, i, i.toNat, v, rfl, rfl, hy, by omega, by omega, ix, hv, k d v _ _ (rv.keep kp) (rh.put (d := .lst (xs.eraseIdx i.toNat)) g ⟨ys.eraseIdx i.toNat, upd_same, ?_, (rr.erase _).keep kp⟩) kp q⟩
  exact Nat.le_trans (List.length_eraseIdx_le _ _) l
def reverseO : OML := fun a xs ds G Q => ds = [] ∧ Q .non (gset G a (.lst xs.reverse))
theorem RVs.rev {G : GH} {H : Hp} : ∀ {ds : List D} {vs : List V}, RVs T G H ds vs → RVs T G H ds.reverse vs.reverse
  | _, _, .nil => .nil
  | _, _, .cons r t => by
    rw [List.reverse_cons, List.reverse_cons]
    exact (RVs.rev t).append (.cons r .nil)
theorem mi_reverse : MlI T rReverse reverseO := by
  intro G H a xs ds vs Q Qv rh g r ⟨ed, q⟩ k
  subst ed
  cases r
  obtain ⟨ys, hy, l, rr⟩ := rh a _ g
  have kp : Keep G H (gset G a (.lst xs.reverse)) (upd H a (.lst ys.reverse)) := Keep.put g
  exact ⟨a, ys, rfl, rfl, hy, k _ _ _ _ .non (rh.put (d := .lst xs.reverse) g ⟨ys.reverse, upd_same, by rw [List.length_reverse]; exact l, rr.rev.keep kp⟩) kp q⟩
/-- x.split(sep): a list that is not changed any more -/
def splitO : OM := fun x ds G Q => match x, ds with
  | .str a, [.str b] => (b.length == 0) = false ∧ a.length + 2 ≤ sizeLine ∧ (Txt.split a b).length ≤ sizeLine ∧ Q (.lst ((Txt.split a b).map D.str)) G
  | _, _ => False
theorem strs_all {G : GH} {H : Hp} : ∀ ys : List Str, RVs T G H (ys.map D.str) (ys.map V.str)
  | [] => .nil
  | y :: ys => .cons (.str y) (strs_all ys)
theorem mi_split : MtI T (fun K v H => tyV K "str" v H) (fun x xs H Q => ∃ a b, x = .str a ∧ xs = [.str b] ∧ (b.length == 0) = false ∧ a.length + 2 ≤ sizeLine ∧ rNewStrs (Txt.split a b) H Q) splitO := by
  intro G H x ds v vs Q Qv rh rx rds q k
  cases rx with
  | str a =>
    rcases rds with _ | ⟨rl, _ | ⟨_, _⟩⟩
    · exact False.elim q
    · cases rl with
      | str b =>
        obtain ⟨h1, h2, h3, q⟩ := q
        exact ⟨a, b, rfl, rfl, h1, h2, fun p np => k _ _ G _ (.lst (rh.fresh np) upd_same (by rw [List.length_map]; exact h3) (strs_all _)) (rh.new np) (Keep.new np) q⟩
      | _ => exact False.elim q
    · exact False.elim (by rename_i a b; cases rl <;> exact q)
  | _ => cases ds <;> exact False.elim q
end
end DL
set_option Elab.async false
set_option linter.all false
set_option maxRecDepth 100000
set_option maxHeartbeats 4000000
namespace DL
open PySem PySem.Spec PyProof.Rows L2
section
variable {T : Tb} {X : Cx} {W : WX} {pins : List (Addr × Obj)} {σ : List (Option V)} {G : GH} {H : Hp} {s : Shared}
/-! ### the type of a word -/
theorem typeIs_D (hK : X.K = T.K) (I : Inv X pins σ H s) (rh : RH T G H) {y : D} {v : V} {u : Value} (rv : RV T G H y v) (r : RelV v u) {a : String} (h : tyD G y = some a) : s.TypeIs u a := by
  cases rv with
  | non => cases h; cases r; rfl
  | bl b => cases h; cases r; rfl
  | int i => cases h; obtain ⟨t, rfl⟩ := r; exact typeIs_int s i t
  | str x => cases h; obtain ⟨t, rfl⟩ := r; exact typeIs_str s x t
  | tup hx l rr =>
    cases h; cases r
    obtain ⟨its, _, ⟨o, ho, hc, n, hd⟩, _⟩ := I.tuple (by rw [hK]; exact hx.sq)
    exact ⟨o, ho, hc⟩
  | tupp g hx hd n l rr =>
    cases h; cases r
    obtain ⟨its, _, ⟨o, ho, hc, n, hd⟩, _⟩ := I.tuple (by rw [hK]; exact (FzT.frz (K := T.K) g hx hd n).sq)
    exact ⟨o, ho, hc⟩
  | lst g hx l rr =>
    cases h; cases r
    obtain ⟨its, _, ⟨o, n, ho, hc, _, hd⟩, _⟩ := I.list (SqL.of hx)
    exact ⟨o, ho, hc⟩
  | frl hx l rr =>
    cases h; cases r
    obtain ⟨its, _, ⟨o, n, ho, hc, _, hd⟩, _⟩ := I.list (by rw [hK]; exact hx.sq)
    exact ⟨o, ho, hc⟩
  | dic g hx e l rr =>
    cases h; cases r
    obtain ⟨_, _, vs, _, dd⟩ := dk_of I.hok hx
    exact dd.typeIs
  | ref p =>
    cases r
    have h : tyO (G p) = some a := h
    cases e : G p with
    | none => rw [e] at h; cases h
    | some o =>
      rw [e] at h
      cases o with
      | lst ds =>
        cases h
        obtain ⟨xs, hx, _⟩ := rh p _ e
        obtain ⟨its, _, ⟨o, n, ho, hc, _, hd⟩, _⟩ := I.list (SqL.of hx)
        exact ⟨o, ho, hc⟩
      | dic ks ds =>
        cases h
        obtain ⟨xs, hx, _⟩ := rh p _ e
        obtain ⟨_, _, vs, _, dd⟩ := dk_of I.hok hx
        exact dd.typeIs
      | ins _ _ => cases h
      | exo _ => cases h
      | dct _ _ => cases h
  | _ => cases h
theorem looks_ty {M : Model} {u : Value} {a : String} (h : s.TypeIs u a) : PySem.W.Looks M s.heap (typeOf u) (.type a) := by
  cases u with
  | ref p =>
    obtain ⟨o, h1, h2⟩ := h
    exact h2 ▸ (PySem.W.Looks.ld h1).andThen .now
  | _ => exact PySem.W.Looks.of_pure h
/-! ### a callee, from around it -/
theorem run_GA {k : Nat} {f : Addr} {fd : FuncData} {ps : List Str} {Q : VK} {us : List Value} {vs : List V} {sp : Sp} {A : Around} (tk : Takes X W) (F : FnG X.prog X.w X.K X.mg X.base (L2.CX X.prog X.w) k f fd ps sp) (hr : RoomG k A) (hb : Binds X.K fd ps [])
    (e0 : Env0 X.prog X.w X.K X.mg X.base A X.stack s H) (I : Inv X pins σ H s) (r : Vals vs us) (h : sp vs H Q (WE W σ)) : wpAny (model X.prog X.w) A (call (.ref f) us) (EP X pins σ Q) X.xe s := by
  have hl : us.length = ps.length := r.length.symm.trans (F.len _ _ _ _ h)
  have b := hb s us I.kIn (by rw [List.append_nil]; exact hl)
  rw [List.append_nil] at b
  refine wpAny_call (codeAny_mono (F.run A X.stack s H ⟨us, []⟩ us vs Q (WE W σ) hr e0 b r h) fun res s' hq => ?_)
  rcases res with er | (fl | fl | fl | fl)
  · exact passAt tk σ pins H s er s' I hq
  all_goals first | exact I.after hq | exact False.elim hq
theorem RoomG.in1 {k : Nat} {A : Around} (r : RoomG (k + 1) A) : RoomG k A.in1 := ⟨r.r.in1, by first | exact r.g | (have := r.g; simpa [Around.in1] using this)⟩
/-! ### == by an own __eq__ -/
/-- what stands on the right: an instance of the class, or a word of a built-in type -/
def rightO (c : Nat) (y : D) (G : GH) : Prop := insO c y G ∨ ∃ a ∈ tyNames, tyD G y = some a
def eqOwnO (c : Nat) (sp : DSp) : O2 := fun x y G Q => insO c x G ∧ rightO c y G ∧ sp [x, y] G (fun d G' => ∃ b, d = .bl b ∧ Q d G') fun _ _ _ => False
def rEqOwn (T : Tb) (c : Nat) (sp : DSp) : R2 := fun x y H Q => ∃ G dx dy, RV T G H dx x ∧ RV T G H dy y ∧ RH T G H ∧ insO c dx G ∧ rightO c dy G ∧ liftSp T sp [x, y] H (fun v H' => (∃ b, v = .bl b) ∧ Q v H') (WE W0 [])
theorem oi_eqOwn {c : Nat} {sp : DSp} : OpI T (rEqOwn T c sp) (eqOwnO c sp) := by
  intro G H x y v u Q Qv rh rx ry ⟨h1, h2, q⟩ k
  refine ⟨G, x, y, rx, ry, rh, h1, h2, [x, y], G, _, _, .cons rx (.cons ry .nil), rh, q, fun v' H' ⟨d, G', a, b, c', e, ed, q'⟩ => ?_, fun _ _ _ _ _ _ z => z.elim⟩
  subst ed
  cases a
  exact ⟨⟨_, rfl⟩, k _ _ G' H' (.bl e) b c' q'⟩
theorem notFirst_ty {K : PySem.W.Frag} {C : Addr} : ∀ a ∈ tyNames, PySem.W.notFirst K C (.type a) = true := by
  intro a h
  simp only [tyNames, List.mem_cons, List.not_mem_nil, or_false] at h
  rcases h with rfl | rfl | rfl | rfl | rfl | rfl | rfl <;> rfl
theorem ins_look {c : Nat} {x : D} {v : V} {u : Value} (I : Inv X pins σ H s) (rh : RH T G H) (rv : RV T G H x v) (r : RelV v u) (h : insO c x G) : ∃ a od, u = .ref a ∧ ∃ ox, PySem.W.InstAt s.heap a ox (T.cls c) od := by
  obtain ⟨a, dx, xs, ev, hx⟩ := ins_at rh rv h
  subst ev
  cases r
  obtain ⟨mA, O, _⟩ := ins_get I.hok hx
  obtain ⟨od, J, _⟩ := O.look
  exact ⟨a, _, rfl, _, J⟩
theorem right_look {c : Nat} {y : D} {v : V} {u : Value} (hK : X.K = T.K) (I : Inv X pins σ H s) (rh : RH T G H) (rv : RV T G H y v) (r : RelV v u) (h : rightO c y G) : ∃ tb, PySem.W.Looks (model X.prog X.w) s.heap (typeOf u) tb ∧ PySem.W.notFirst X.K (T.cls c) tb = true := by
  rcases h with h | ⟨a, hm, ht⟩
  · obtain ⟨a, od, eu, ox, J⟩ := ins_look I rh rv r h
    subst eu
    exact ⟨_, J.type, by unfold PySem.W.notFirst; rw [beq_self_eq_true, Bool.true_or]⟩
  · exact ⟨_, looks_ty (typeIs_D hK I rh rv r ht), notFirst_ty a hm⟩
theorem op_eqOwn {c k : Nat} {sp : DSp} (hK : X.K = T.K) (C : CalM T X.prog X.w X.mg X.base c "__eq__" k sp) (hr : RoomG k X.A) : OpR X (compareOp .Eq) (rEqOwn T c sp) := by
  intro pins s σ H x y v u Q I rx ry ⟨G, dx, dy, rdx, rdy, rh, h1, h2, q⟩
  obtain ⟨f, fd, ps, F, hM, hb⟩ := C.ex
  rw [← hK] at F hM hb
  obtain ⟨a, od, eu, ox, J⟩ := ins_look I rh rdx rx h1
  subst eu
  obtain ⟨tb, lb, nb⟩ := right_look hK I rh rdy ry h2
  obtain ⟨m, hF⟩ := I.fr
  refine PySem.W.cmp_K (op := .Eq) (tb := tb) hr.r.units0 hF I.ok.mod.kin J lb nb hM.at_ hM.fn ?_
  have hv := run_GA (σ := σ) (us := [Value.ref a, u]) (takes0 (X := X)) F hr hb I.env0 I (.cons rx (.cons ry .nil)) q
  refine wpAny_mono hv (fun w s' hw => ?_) fun _ _ z => z
  obtain ⟨z, H', I', rz, ⟨b, ez⟩, q'⟩ := hw
  subst ez
  cases rz
  exact ⟨.bl b, H', I', rfl, q'⟩
variable {a b e o : Expr} {es : List Expr} {ta tb te : TEd} {u : TAd} {pos p : Pos}
theorem q_eqOwn {c k : Nat} {sp : DSp} (hK : X.K = T.K) (C : CalM T X.prog X.w X.mg X.base c "__eq__" k sp) (hr : RoomG k X.A) (ha : QE T X W a ta) (hb : QE T X W b tb) (hm : behindInMarks .Eq b = false := by first | exact nomark _ | rfl) :
    QE T X W (.Compare a [.Eq] [b] pos) (wOp (eqOwnO c sp) ta tb) := q_cmp (op_eqOwn hK C hr) oi_eqOwn ha hb hm
theorem qt_eqOwn {c k : Nat} {sp : DSp} (hK : X.K = T.K) (C : CalM T X.prog X.w X.mg X.base c "__eq__" k sp) (hr : RoomG k X.A) (ha : QE T X W a ta) (hb : QE T X W b tb) (hm : behindInMarks .Eq b = false := by first | exact nomark _ | rfl) :
    QT T X W (.Compare a [.Eq] [b] pos) (wTest (wOp (eqOwnO c sp) ta tb)) := qt_cmp (op_eqOwn hK C hr) oi_eqOwn ha hb hm
/-! ### len by an own __len__ -/
def lenOwnO (c : Nat) (sp : DSp) : OL := fun ds G Q => ∃ x, ds = [x] ∧ insO c x G ∧ sp [x] G (fun d G' => ∃ i : Int, d = .int i ∧ 0 ≤ i ∧ i < 2 ^ 63 ∧ Q d G') fun _ _ _ => False
def rLenOwn (T : Tb) (c : Nat) (sp : DSp) : List V → Hp → VK → Prop := fun vs H Q => ∃ G dx x, vs = [x] ∧ RV T G H dx x ∧ RH T G H ∧ insO c dx G ∧ liftSp T sp [x] H (fun v H' => (∃ i : Int, v = .int i ∧ 0 ≤ i ∧ i < 2 ^ 63) ∧ Q v H') (WE W0 [])
theorem ci_lenOwn {c : Nat} {sp : DSp} : CallI T (rLenOwn T c sp) (lenOwnO c sp) := by
  intro G H ds vs Q Qv rh r ⟨x, ed, hi, q⟩ k
  subst ed
  rcases r with _ | ⟨rx, _ | ⟨_, _⟩⟩
  refine ⟨G, x, _, rfl, rx, rh, hi, [x], G, _, _, .cons rx .nil, rh, q, fun v' H' ⟨d, G', a, b, c', i, ed, h0, h1, q'⟩ => ?_, fun _ _ _ _ _ _ z => z.elim⟩
  subst ed
  cases a
  exact ⟨⟨i, rfl, h0, h1⟩, k _ _ G' H' (.int i) b c' q'⟩
theorem call_lenOwn {c k : Nat} {sp : DSp} (hK : X.K = T.K) (C : CalM T X.prog X.w X.mg X.base c "__len__" k sp) (hr : RoomG (k + 1) X.A) : CallR X (.builtin "len") (rLenOwn T c sp) := by
  intro pins s σ H xs us Q I r ⟨G, dx, x, ex, rdx, rh, h1, q⟩
  subst ex
  obtain ⟨f, fd, ps, F, hM, hb⟩ := C.ex
  rw [← hK] at F hM hb
  obtain ⟨u, rfl, rx⟩ := vals1 r
  obtain ⟨a, od, eu, ox, J⟩ := ins_look I rh rdx rx h1
  subst eu
  obtain ⟨m, hF⟩ := I.fr
  refine PySem.W.len_K hF I.ok.mod.kin J hM.at_ hM.fn ?_
  have hv := run_GA (σ := σ) (us := [Value.ref a]) (takes0 (X := X)) F hr.in1 hb I.env0.in1 I (.cons rx .nil) q
  refine wpAny_mono hv (fun w s' hw => ?_) fun _ _ z => z
  obtain ⟨z, H', I', rz, ⟨i, ez, h0, h1⟩, q'⟩ := hw
  subst ez
  obtain ⟨t, rfl⟩ := rz
  exact ⟨⟨h0, h1⟩, .int i, H', I'.tok _, ⟨_, rfl⟩, q'⟩
theorem q_lenOwn {c k : Nat} {sp : DSp} (hK : X.K = T.K) (hm : X.mg "len" = none) (C : CalM T X.prog X.w X.mg X.base c "__len__" k sp) (hr : RoomG (k + 1) X.A) (ha : QA T X W (e :: es) u) (hg : Gl X "len" := by rfl)
    (he : starEach (e :: es) X.env = (false, eval e X.env) :: starEach es X.env := by rfl) (hpl : (backTo pos (starEach es X.env)).any (·.1) = false := by rfl) :
    QE T X W (.Call (.Name "len" p) (e :: es) [] pos) (wCall (lenOwnO c sp) u) := q_callB (call_lenOwn hK C hr) ci_lenOwn hg hm rfl ha (by decide) (by decide) he hpl
/-! ### in by an own __contains__ -/
def inOwnO (neg : Bool) (c : Nat) (sp : DSp) : O2 := fun x y G Q => insO c y G ∧ sp [y, x] G (fun d G' => ∃ b, d = .bl b ∧ Q (.bl (if neg = true then !b else b)) G') fun _ _ _ => False
def rInOwn (neg : Bool) (T : Tb) (c : Nat) (sp : DSp) : R2 := fun x y H Q => ∃ G dy, RV T G H dy y ∧ RH T G H ∧ insO c dy G ∧ liftSp T sp [y, x] H (fun v H' => ∃ b, v = .bl b ∧ Q (.bl (if neg = true then !b else b)) H') (WE W0 [])
theorem oi_inOwn {neg : Bool} {c : Nat} {sp : DSp} : OpI T (rInOwn neg T c sp) (inOwnO neg c sp) := by
  intro G H x y v u Q Qv rh rx ry ⟨h1, q⟩ k
  refine ⟨G, y, ry, rh, h1, [y, x], G, _, _, .cons ry (.cons rx .nil), rh, q, fun v' H' ⟨d, G', a, b, c', e, ed, q'⟩ => ?_, fun _ _ _ _ _ _ z => z.elim⟩
  subst ed
  cases a
  exact ⟨e, rfl, k _ _ G' H' (.bl _) b c' q'⟩
theorem op_inOwn {c k : Nat} {sp : DSp} (hK : X.K = T.K) (C : CalM T X.prog X.w X.mg X.base c "__contains__" k sp) (hr : RoomG k X.A) : OpR X (compareOp .In) (rInOwn false T c sp) := by
  intro pins s σ H x y v u Q I rx ry ⟨G, dy, rdy, rh, h1, q⟩
  obtain ⟨f, fd, ps, F, hM, hb⟩ := C.ex
  rw [← hK] at F hM hb
  obtain ⟨a, od, eu, ox, J⟩ := ins_look I rh rdy ry h1
  subst eu
  obtain ⟨m, hF⟩ := I.fr
  refine PySem.W.in_K hF I.ok.mod.kin J hM.at_ hM.fn ?_
  have hv := run_GA (σ := σ) (us := [Value.ref a, v]) (takes0 (X := X)) F hr hb I.env0 I (.cons ry (.cons rx .nil)) q
  refine wpAny_mono hv (fun w s' hw => ?_) fun _ _ z => z
  obtain ⟨z, H', I', rz, b, ez, q'⟩ := hw
  subst ez
  cases rz
  exact wpAny_pure ⟨.bl b, H', I', rfl, q'⟩
theorem op_notInOwn {c k : Nat} {sp : DSp} (hK : X.K = T.K) (C : CalM T X.prog X.w X.mg X.base c "__contains__" k sp) (hr : RoomG k X.A) : OpR X (compareOp .NotIn) (rInOwn true T c sp) := by
  intro pins s σ H x y v u Q I rx ry ⟨G, dy, rdy, rh, h1, q⟩
  obtain ⟨f, fd, ps, F, hM, hb⟩ := C.ex
  rw [← hK] at F hM hb
  obtain ⟨a, od, eu, ox, J⟩ := ins_look I rh rdy ry h1
  subst eu
  obtain ⟨m, hF⟩ := I.fr
  refine PySem.W.notIn_K hF I.ok.mod.kin J hM.at_ hM.fn ?_
  have hv := run_GA (σ := σ) (us := [Value.ref a, v]) (takes0 (X := X)) F hr hb I.env0 I (.cons ry (.cons rx .nil)) q
  refine wpAny_mono hv (fun w s' hw => ?_) fun _ _ z => z
  obtain ⟨z, H', I', rz, b, ez, q'⟩ := hw
  subst ez
  cases rz
  exact wpAny_pure ⟨.bl (!b), H', I', rfl, q'⟩
end
end DL
set_option Elab.async false
set_option linter.all false
set_option maxRecDepth 100000
set_option maxHeartbeats 4000000
namespace DL
open PySem PySem.Spec PyProof.Rows L2
section
variable {T : Tb} {X : Cx} {W : WX} {G : GH} {H : Hp} {a b e o : Expr} {es : List Expr} {ta tb te : TEd} {u : TAd} {pos p p2 : Pos}
/-! ### isinstance(x, (T1, T2, ..)), built-in types -/
def wIsiT (cs : List String) (te : TEd) : TEd := fun env G Q Ex => te env G (fun x G1 => ∃ a, tyD G1 x = some a ∧ Q (.bl (cs.any fun c => instB a c)) G1) Ex
/-- the names of types, from the left -/
structure TysOk (X : Cx) (es : List Expr) (cs : List String) : Prop where
  pa : PA X es (fun _ H Q => Q (cs.map V.ty) H)
theorem tys_nil : TysOk X [] [] := ⟨pa_nil⟩
theorem tys_cons {x : Str} {c : String} {cs : List String} (hm : X.mg x = none) (hv : bootBuiltins x = some (.type c)) (h : TysOk X es cs) (hg : Gl X x := by rfl) (hn : x ≠ "__name__" := by decide) (hd : (x == ("__debug__" : Str)) = false := by decide)
    (hs : starEach (.Name x pos :: es) X.env = (false, eval (.Name x pos) X.env) :: starEach es X.env := by rfl) : TysOk X (.Name x pos :: es) (c :: cs) :=
  ⟨PA.imp (pa_cons (pe_bltn (v := .ty c) hg hm hv rfl hn hd) h.pa hs) fun σ H Q q => q⟩
theorem kitAny_ty {K : PySem.W.Frag} {a : String} (ha : a ∈ tyNames) : ∀ {cs : List String}, (∀ c ∈ cs, c ∈ clsNames) → PySem.W.kitAny K (.type a) (cs.map Value.type) = some (cs.any fun c => instB a c)
  | [], _ => rfl
  | c :: cs, h => by
    have h1 := kit_ty (K := K) (kit_all a ha c (h c List.mem_cons_self))
    have h2 := kitAny_ty (K := K) ha (cs := cs) fun d hd => h d (List.mem_cons_of_mem _ hd)
    rw [List.map_cons, List.any_cons]
    refine kitAny_cons h1 (fun e => by rw [e, Bool.false_or]; exact h2) fun e => by rw [e, Bool.true_or]
theorem clsv_all : ∀ cs : List String, Paired ClsV (cs.map V.ty) (cs.map Value.type)
  | [] => .nil
  | c :: cs => .cons (.ty c) (clsv_all cs)
theorem q_isiT (cs : List String) {ts : List Expr} {x1} (hK : X.K = T.K) (hm : X.mg "isinstance" = none) (he : QE T X W e te) (hts : TysOk X ts cs) (hc : ∀ c ∈ cs, c ∈ clsNames := by decide) (hz : cs.length ≤ 100 := by decide) (hg : Gl X "isinstance" := by rfl)
    (hs1 : starEach [e, .Tuple ts x1 p2] X.env = (false, eval e X.env) :: starEach [.Tuple ts x1 p2] X.env := by rfl) (hs2 : starEach [.Tuple ts x1 p2] X.env = (false, eval (.Tuple ts x1 p2) X.env) :: starEach [] X.env := by rfl)
    (hpl : (backTo pos (starEach [.Tuple ts x1 p2] X.env)).any (·.1) = false := by rfl) : QE T X W (.Call (.Name "isinstance" p) [e, .Tuple ts x1 p2] [] pos) (wIsiT cs te) :=
  QE.of (pe_callB call_isiT hg hm rfl (pa_cons he.pe (pa_cons (pe_tup hts.pa) pa_nil hs2) hs1) (by decide) (by decide) hs1 hpl) fun env G σ H Q Ex Qv rs rh ex q k => intoE rs rh ex q fun x v G1 H1 rx rh1 k1 ⟨a, ha, q1⟩ => by
    refine ⟨by rw [List.length_map, sizeLine_eq]; omega, fun p np => ?_⟩
    refine ⟨v, p, cs.map V.ty, .type a, cs.map Value.type, _, rfl, upd_same, ?_, by rw [hK]; exact tyX_of (rh1.new np) (rx.keep (Keep.new np)) ha, kitAny_ty (tyD_mem ha) hc, k _ _ G1 _ (.bl _) (rh1.new np) (k1.trans (Keep.new np)) q1⟩
    exact clsv_all cs
/-! ### x in xs: data -/
def inDO (neg : Bool) : O2 := fun x y G Q => ∃ zs, seqD G y = some zs ∧ okD (topD G x) = true ∧ okD (.lst zs) = true ∧ Q (.bl (if neg = true then !(zs.any fun z => eqD z (topD G x)) else zs.any fun z => eqD z (topD G x))) G
theorem pyDs_map : ∀ ds : List D, pyDs ds = ds.map pyD
  | [] => rfl
  | d :: ds => by unfold pyDs; rw [pyDs_map ds]; rfl
def rInA (K : PySem.W.Frag) (neg : Bool) : R2 := fun x y H Q => ∃ d ds, Dp K H x d ∧ (Dp K H y (.list ds) ∨ Dp K H y (.tuple ds)) ∧ SeqAt.shaped d = true ∧ PyData.canLayAll0 ds = true ∧ Q (.bl (if neg = true then !(ds.any fun z => PyData.eqv z d) else ds.any fun z => PyData.eqv z d)) H
theorem room_in {A : Around} (hu : A.units + 80 < cLine) {d : PyData} (h : SeqAt.shaped d = true) (n : Nat) : A.units + 1 + min n d.depth < cLine := by
  have h1 := SeqAt.depth_of_shaped h
  have h2 : min n d.depth ≤ d.depth := Nat.min_le_right _ _
  omega
theorem op_inA (hu : X.A.units + 80 < cLine) : OpR X (compareOp .In) (rInA X.K false) := by
  intro pins s σ H x y v u Q I rx ry ⟨d, ds, hd, he, sd, se, q⟩
  obtain ⟨as, r1⟩ := Dp.reads I d x v hd rx
  rcases he with he | he
  · obtain ⟨bs, r2⟩ := Dp.reads I (.list ds) y u he ry
    exact SeqAt.in_list_reads r2 r1 se (SeqAt.canLay_of_shaped sd) (room_in hu sd _) ⟨.bl _, H, I, rfl, q⟩
  · obtain ⟨bs, r2⟩ := Dp.reads I (.tuple ds) y u he ry
    exact SeqAt.in_tuple_reads r2 r1 se (SeqAt.canLay_of_shaped sd) (room_in hu sd _) ⟨.bl _, H, I, rfl, q⟩
theorem op_notInA (hu : X.A.units + 80 < cLine) : OpR X (compareOp .NotIn) (rInA X.K true) := by
  intro pins s σ H x y v u Q I rx ry ⟨d, ds, hd, he, sd, se, q⟩
  obtain ⟨as, r1⟩ := Dp.reads I d x v hd rx
  rcases he with he | he
  · obtain ⟨bs, r2⟩ := Dp.reads I (.list ds) y u he ry
    exact SeqAt.notIn_list_reads r2 r1 se (SeqAt.canLay_of_shaped sd) (room_in hu sd _) ⟨.bl _, H, I, rfl, q⟩
  · obtain ⟨bs, r2⟩ := Dp.reads I (.tuple ds) y u he ry
    exact SeqAt.notIn_tuple_reads r2 r1 se (SeqAt.canLay_of_shaped sd) (room_in hu sd _) ⟨.bl _, H, I, rfl, q⟩
theorem seq_dp {y : D} {v : V} {zs : List D} (rh : RH T G H) (r : RV T G H y v) (h : seqD G y = some zs) (hl : PyData.canLayAll0 (pyDs zs) = true) : Dp T.K H v (.list (pyDs zs)) ∨ Dp T.K H v (.tuple (pyDs zs)) := by
  cases r with
  | tup hx l r => cases h; exact .inr (.tup hx.sq (RVs.dp r hl))
  | lst g hx l r => cases h; exact .inl (.lst (SqL.of hx) (RVs.dp r hl))
  | frl hx l r => cases h; exact .inl (.lst hx.sq (RVs.dp r hl))
  | ref a =>
    have g := lstAt_some (show lstAt (G a) = some zs from h)
    obtain ⟨vs, hx, _, r⟩ := rh a _ g
    exact .inl (.lst (SqL.of hx) (RVs.dp r hl))
  | _ => cases h
theorem oi_inD {neg : Bool} {K : PySem.W.Frag} (hK : K = T.K) : OpI T (rInA K neg) (inDO neg) := by
  intro G H x y v u Q Qv rh rx ry ⟨zs, h1, h2, h3, q⟩ k
  subst hK
  have hl : PyData.canLayAll0 (pyDs zs) = true := by
    have := SeqAt.canLay_of_shaped h3
    unfold pyD PyData.canLay0 at this
    exact this
  refine ⟨_, pyDs zs, topD_dp rh rx (SeqAt.canLay_of_shaped h2), seq_dp rh ry h1 hl, h2, hl, ?_⟩
  have e : ((pyDs zs).any fun z => PyData.eqv z (pyD (topD G x))) = zs.any fun z => eqD z (topD G x) := by
    rw [pyDs_map, List.any_map]
    rfl
  rw [e]
  exact k _ _ G H (.bl _) rh (Keep.refl _ _) q
theorem RoomG.hu2 {k : Nat} {A : Around} (r : RoomG k A) : A.units + 80 < cLine := by
  have := r.r.un
  omega
theorem q_inD (hK : X.K = T.K) (hu : X.A.units + 80 < cLine) (ha : QE T X W a ta) (hb : QE T X W b tb) (hm : behindInMarks .In b = false := by first | exact nomark _ | rfl) : QE T X W (.Compare a [.In] [b] pos) (wOp (inDO false) ta tb) := q_cmp (op_inA hu) (oi_inD hK) ha hb hm
theorem q_notInD (hK : X.K = T.K) (hu : X.A.units + 80 < cLine) (ha : QE T X W a ta) (hb : QE T X W b tb) (hm : behindInMarks .NotIn b = false := by first | exact nomark _ | rfl) : QE T X W (.Compare a [.NotIn] [b] pos) (wOp (inDO true) ta tb) := q_cmp (op_notInA hu) (oi_inD hK) ha hb hm
theorem qt_inD (hK : X.K = T.K) (hu : X.A.units + 80 < cLine) (ha : QE T X W a ta) (hb : QE T X W b tb) (hm : behindInMarks .In b = false := by first | exact nomark _ | rfl) : QT T X W (.Compare a [.In] [b] pos) (wTest (wOp (inDO false) ta tb)) := qt_cmp (op_inA hu) (oi_inD hK) ha hb hm
theorem qt_notInD (hK : X.K = T.K) (hu : X.A.units + 80 < cLine) (ha : QE T X W a ta) (hb : QE T X W b tb) (hm : behindInMarks .NotIn b = false := by first | exact nomark _ | rfl) : QT T X W (.Compare a [.NotIn] [b] pos) (wTest (wOp (inDO true) ta tb)) := qt_cmp (op_notInA hu) (oi_inD hK) ha hb hm
/-! ### k in d -/
def dinO (x y : D) (G : GH) (Q : DK) : Prop := match y with
  | .dic ks vs => ∃ k, keyD x = some k ∧ Q (.bl (lookK ks vs k).isSome) G
  | .ref a => ∃ ks vs, G a = some (.dic ks vs) ∧ ∃ k, keyD x = some k ∧ Q (.bl (lookK ks vs k).isSome) G
  | _ => False
theorem look_some {k : Key} : ∀ {ks : List Key} {ds : List D} {vs : List V}, RVs T G H ds vs → (valV (ks.zip vs) k).isSome = (lookK ks ds k).isSome
  | [], _, _, _ => by unfold lookK; rfl
  | g :: ks, _, _, .nil => by unfold lookK; rfl
  | g :: ks, _, _, .cons a b => by
    unfold lookK valV
    rw [List.zip_cons_cons, List.find?_cons]
    by_cases e : g = k
    · rw [if_pos e, decide_eq_true e]; rfl
    · rw [if_neg e, decide_eq_false e]; exact look_some b
end
end DL
set_option Elab.async false
set_option linter.all false
set_option maxRecDepth 100000
set_option maxHeartbeats 4000000
namespace DL
open PySem PySem.Spec PyProof.Rows L2
/-! ### a dict's keys and words, one more or another -/
def setAt {α : Type} : List Key → List α → Key → α → List α
  | g :: ks, x :: xs, k, y => (if g = k then y else x) :: setAt ks xs k y
  | _, xs, _, _ => xs
def memK (ks : List Key) (k : Key) : Bool := ks.any fun g => decide (g = k)
def putKs (ks : List Key) (k : Key) : List Key := if memK ks k = true then ks else ks ++ [k]
def putVs {α : Type} (ks : List Key) (xs : List α) (k : Key) (y : α) : List α := if memK ks k = true then setAt ks xs k y else xs ++ [y]
theorem setAt_len {α : Type} : ∀ (ks : List Key) (xs : List α) (k : Key) (y : α), (setAt ks xs k y).length = xs.length
  | [], _, _, _ => by unfold setAt; rfl
  | _ :: _, [], _, _ => by unfold setAt; rfl
  | g :: ks, x :: xs, k, y => by unfold setAt; rw [List.length_cons, List.length_cons, setAt_len ks xs k y]
theorem putKs_len {ks : List Key} {k : Key} : (putKs ks k).length = if memK ks k = true then ks.length else ks.length + 1 := by
  unfold putKs
  split <;> simp
theorem put_len {α : Type} {ks : List Key} {xs : List α} {k : Key} {y : α} (h : ks.length = xs.length) : (putKs ks k).length = (putVs ks xs k y).length := by
  unfold putKs putVs
  split
  · rw [setAt_len, h]
  · simp [h]
theorem setAt_map : ∀ (ks : List Key) (xs : List V) (k : Key) (v : V), ks.length = xs.length → (ks.zip xs).map (fun kv => if kv.1 = k then (kv.1, v) else kv) = ks.zip (setAt ks xs k v)
  | [], _, _, _, _ => by unfold setAt; rfl
  | _ :: _, [], _, _, h => nomatch h
  | g :: ks, x :: xs, k, v, h => by
    unfold setAt
    rw [List.zip_cons_cons, List.map_cons, List.zip_cons_cons, setAt_map ks xs k v (Nat.succ.inj h)]
    by_cases e : g = k
    · rw [if_pos e, if_pos e]
    · rw [if_neg e, if_neg e]
theorem any_key : ∀ {ks : List Key} {xs : List V} {k : Key}, ks.length = xs.length → ((ks.zip xs).any fun kv => decide (kv.1 = k)) = memK ks k
  | [], _, _, _ => rfl
  | _ :: _, [], _, h => nomatch h
  | g :: ks, x :: xs, k, h => by
    rw [List.zip_cons_cons, List.any_cons, any_key (Nat.succ.inj h)]
    rfl
theorem put_zip {ks : List Key} {xs : List V} {k : Key} {v : V} (h : ks.length = xs.length) : putK (ks.zip xs) k v = (putKs ks k).zip (putVs ks xs k v) := by
  unfold putK putKs putVs
  rw [any_key h]
  cases e : memK ks k with
  | true =>
    rw [if_pos rfl, if_pos rfl, if_pos rfl]
    exact setAt_map ks xs k v h
  | false =>
    rw [if_neg Bool.false_ne_true, if_neg Bool.false_ne_true, if_neg Bool.false_ne_true, List.zip_append h]
    rfl
section
variable {T : Tb} {X : Cx} {W : WX} {G : GH} {H : Hp}
theorem RVs.setAt {d : D} {v : V} (r : RV T G H d v) : ∀ {ks : List Key} {ds : List D} {vs : List V} (k : Key), RVs T G H ds vs → RVs T G H (DL.setAt ks ds k d) (DL.setAt ks vs k v)
  | [], _, _, _, h => by unfold DL.setAt; exact h
  | _ :: _, _, _, _, .nil => by unfold DL.setAt; exact .nil
  | g :: ks, _, _, k, .cons a b => by
    unfold DL.setAt
    refine .cons ?_ (RVs.setAt r k b)
    by_cases e : g = k
    · rw [if_pos e, if_pos e]; exact r
    · rw [if_neg e, if_neg e]; exact a
theorem RVs.putVs {d : D} {v : V} {ks : List Key} {ds : List D} {vs : List V} (r : RV T G H d v) (k : Key) (h : RVs T G H ds vs) : RVs T G H (DL.putVs ks ds k d) (DL.putVs ks vs k v) := by
  unfold DL.putVs
  split
  · exact h.setAt r k
  · exact h.append (.cons r .nil)
variable {a b e o i tg iter kx vx : Expr} {ifs : List Expr} {ta tb te to ti tk tv : TEd} {pos p : Pos}
/-! ### k in d -/
def wIn (neg : Bool) (ta tb : TEd) : TEd := fun env G Q Ex => ta env G (fun x G1 => tb env G1 (fun y G2 => dinO x y G2 fun d G3 => ∃ c, d = .bl c ∧ Q (.bl (if neg = true then !c else c)) G3) Ex) Ex
theorem q_din (hu : X.A.units + 64 < cLine) (ha : QE T X W a ta) (hb : QE T X W b tb) (h1 : behindInMarks .In b = false := by first | exact nobehind _ (by decide) (by decide) | rfl) : QE T X W (.Compare a [.In] [b] pos) (wIn false ta tb) :=
  QE.of (pe_cmp (pc_din (by omega) ha.pe hb.pe) h1) fun env G σ H Q Ex Qv rs rh ex q k => intoE rs rh ex q fun x xv G1 H1 rx rh1 k1 q1 => intoE (rs.keep k1) rh1 (ex.keep k1) q1 fun y yv G2 H2 ry rh2 k2 q2 => by
    have rx := rx.keep k2
    cases ry with
    | dic g hx e l r =>
      obtain ⟨kk, hk, c, ec, q2⟩ := q2
      cases ec
      exact ⟨_, _, rfl, .inl ⟨_, kk, .inl hx, key_val rx hk, rfl⟩, by rw [e, look_some r]; exact k _ _ G2 H2 (.bl _) rh2 (k1.trans k2) q2⟩
    | ref a =>
      obtain ⟨ks, vs, g, kk, hk, c, ec, q2⟩ := q2
      cases ec
      obtain ⟨xs, hx, l, r⟩ := rh2 a _ g
      exact ⟨_, _, rfl, .inl ⟨_, kk, .inl hx, key_val rx hk, rfl⟩, by rw [look_some r]; exact k _ _ G2 H2 (.bl _) rh2 (k1.trans k2) q2⟩
    | _ => exact False.elim q2
/-! ### {k: v for ..} -/
def wDcL (p : Addr) (stay : GH → Prop) (gd : TGd) (tt : TTd) (tk tv : TEd) (env0 : Ev) (Q : List Key → List D → GH → Prop) : List D → List Key → List D → GH → Prop
  | [], ks, vs, G => stay G ∧ G p = some (.dic ks vs) ∧ Q ks vs G
  | d :: ds, ks, vs, G => stay G ∧ gd d env0 G (fun env1 G1 => tt env1 G1 (fun b G2 => if b = true then tk env1 G2 (fun y G3 => tv env1 G3 (fun z G4 => G4 p = some (.dic ks vs) ∧ ∃ k, keyD y = some k ∧
      wDcL p stay gd tt tk tv env0 Q ds (putKs ks k) (putVs ks vs k z) (gset G4 p (.dic (putKs ks k) (putVs ks vs k z)))) (fun _ _ _ => False)) (fun _ _ _ => False)
      else wDcL p stay gd tt tk tv env0 Q ds ks vs G2) (fun _ _ _ => False)) (fun _ _ _ => False)
def wDc (wi : TId) (gd : TGd) (tt : TTd) (tk tv : TEd) (vs : List Nat) : TEd := fun env G Q Ex => wi env G (fun ds stay G1 => ∀ p, G1 p = none → wDcL p stay gd tt tk tv (wipeE env vs) (fun ks xs G2 => Q (.dic ks xs) (gdel G2 p)) ds [] [] (gset G1 p (.dic [] []))) Ex
def wDcM (wi : TId) (gd : TGd) (tt : TTd) (tk tv : TEd) (vs : List Nat) : TEd := fun env G Q Ex => wi env G (fun ds stay G1 => ∀ p, G1 p = none → wDcL p stay gd tt tk tv (wipeE env vs) (fun _ _ G2 => Q (.ref p) G2) ds [] [] (gset G1 p (.dic [] []))) Ex
theorem dc_in {wi : TId} {g : TG} {gd : TGd} {tt : TTd} {tk tv : TEd} {vs : List Nat} (hg : GOk T vs g gd) {env0 : Ev} {G0 : GH} {H0 : Hp} {σ0 : List (Option V)} {Ex : DX} {Qd : D → GH → Prop} {Qv : VK} {fin : Addr → List Key → List D → D} {gfin : Addr → GH → GH}
    (hfin : ∀ (p : Addr) (ks : List Key) (xs : List D) (G : GH) (H : Hp), RH T G H → G p = some (.dic ks xs) → RV T (gfin p G) H (fin p ks xs) (.ref p) ∧ RH T (gfin p G) H ∧ ∀ G1 H1, Keep G1 H1 G H → Keep G1 H1 (gfin p G) H)
    (rs0 : RS T G0 H0 env0 σ0) (rh0 : RH T G0 H0) (ex : ExOk T W G0 H0 σ0 Ex)
    (q : wi env0 G0 (fun ds stay G1 => ∀ p, G1 p = none → wDcL p stay gd tt tk tv (wipeE env0 vs) (fun ks xs G2 => Qd (fin p ks xs) (gfin p G2)) ds [] [] (gset G1 p (.dic [] []))) Ex)
    (kf : ∀ d v G' H', RV T G' H' d v → RH T G' H' → Keep G0 H0 G' H' → Qd d G' → Qv v H') : tDc (liftI T W wi) g (liftT T W0 tt) (liftE T W0 tk) (liftE T W0 tv) vs σ0 H0 Qv := by
  refine ⟨env0, G0, _, Ex, rs0, rh0, ex, q, fun J ds stay G1 H1 rh1 k1 src q1 p np => ?_⟩
  have q1 := q1 p (rh1.fresh np)
  have kn : Keep G1 H1 (gset G1 p (.dic [] [])) (upd H1 p (.dK [])) := Keep.newG np
  have rhn : RH T (gset G1 p (.dic [] [])) (upd H1 p (.dK [])) := rh1.newG (d := .dic [] []) np ⟨[], upd_same, rfl, .nil⟩
  refine ⟨fun i m H => ∃ G ks xs, RH T G H ∧ Keep G1 H1 G H ∧ m = ds.length - i ∧ i ≤ ds.length ∧ ks.length ≤ i ∧ wDcL p stay gd tt tk tv (wipeE env0 vs) (fun ks xs G2 => Qd (fin p ks xs) (gfin p G2)) (ds.drop i) ks xs G,
    ⟨ds.length, _, [], [], rhn, kn, by simp, Nat.zero_le _, Nat.le_refl _, by simpa using q1⟩, ?_⟩
  rintro i m H ⟨G, ks, xs, rh, k, rfl, hi, hacc, q⟩
  have rsE : RS T G H (wipeE env0 vs) (wipe σ0 vs) := ((rs0.keep k1).keep k).wipe vs
  by_cases hlt : i < ds.length
  · rw [drop_cons hlt] at q
    obtain ⟨st, q⟩ := q
    refine .inr ⟨src.go G H k rh st i hlt, fun H' => ∃ G ks xs, RH T G H' ∧ Keep G1 H1 G H' ∧ ks.length ≤ i + 1 ∧ wDcL p stay gd tt tk tv (wipeE env0 vs) (fun ks xs G2 => Qd (fin p ks xs) (gfin p G2)) (ds.drop (i + 1)) ks xs G,
      fun H' ⟨G', ks', xs', a, b, c, d⟩ => ⟨ds.length - (i + 1), by omega, G', ks', xs', a, b, rfl, by omega, c, d⟩, fun x H' hy => ?_⟩
    obtain ⟨rx, rh', k'⟩ := src.yld G H k rh st i ds[i] x H' (List.getElem?_eq_getElem hlt) hy
    refine hg _ _ _ _ _ _ _ _ _ rx (rsE.keep k') q fun env1 σ1 rs1 hw q1 => ⟨by rw [hw]; exact wipe_wipe σ0 vs, ?_⟩
    refine intoT rs1 rh' (fun _ _ _ _ _ _ z => z.elim) q1 fun b G2 H2 rh2 k2 q2 => ?_
    cases b with
    | false =>
      rw [if_neg Bool.false_ne_true] at q2 ⊢
      exact ⟨G2, ks, xs, rh2, (k.trans k').trans k2, by omega, q2⟩
    | true =>
      rw [if_pos rfl] at q2 ⊢
      refine intoE (rs1.keep k2) rh2 (fun _ _ _ _ _ _ z => z.elim) q2 fun y yv G3 H3 ry rh3 k3 q3 => ?_
      refine intoE ((rs1.keep k2).keep k3) rh3 (fun _ _ _ _ _ _ z => z.elim) q3 fun z zv G4 H4 rz rh4 k4 ⟨g4, kk, hk, q4⟩ => ?_
      obtain ⟨us, hu, lu, ru⟩ := rh4 p _ g4
      have sl := src.len
      have ln : (ks.zip us).length < sizeLine := by
        rw [List.length_zip]
        omega
      refine ⟨ks.zip us, kk, key_val (ry.keep k4) hk, hu, ln, gset G4 p (.dic (putKs ks kk) (putVs ks xs kk z)), putKs ks kk, putVs ks xs kk z, ?_, ?_, ?_, q4⟩
      · have kp : Keep G4 H4 (gset G4 p (.dic (putKs ks kk) (putVs ks xs kk z))) (upd H4 p (.dK (putK (ks.zip us) kk zv))) := Keep.put g4
        exact rh4.put (d := .dic (putKs ks kk) (putVs ks xs kk z)) g4 ⟨putVs ks us kk zv, by rw [upd_same, put_zip lu], put_len lu, (ru.keep kp).putVs (rz.keep kp) kk⟩
      · exact ((((k.trans k').trans k2).trans k3).trans k4).trans (Keep.put g4)
      · rw [putKs_len]
        split <;> omega
  · have e : i = ds.length := by omega
    subst e
    rw [List.drop_length] at q
    obtain ⟨st, gp, q⟩ := q
    obtain ⟨a, b, c⟩ := hfin p ks xs G H rh gp
    exact .inl ⟨src.stop G H k rh st _ (Nat.le_refl _), kf _ _ _ _ a b (c _ _ (k1.trans k)) q⟩
variable {scope : Scope} {own : List (Str × Nat)} {wi : TId} {g : TG} {gd : TGd} {tt : TTd}
theorem q_dc (hc : X.calm = true) (hN : X.N.Nodup) (hi : QI T X W tg iter wi) (ok : BlkOk X.N X.env.scope scope own) (go : GOk T (own.map (·.2)) g gd)
    (hg : ∀ (s : Shared) (H : Hp) (C : Addr) (cl : List (Str × Addr)) (fp : List Addr), PG (X.blk s H scope (compEnvC scope cl C X.env) fp) tg g) (ht : ∀ (s : Shared) (H : Hp) (C : Addr) (cl : List (Str × Addr)) (fp : List Addr), QTs T (X.blk s H scope (compEnvC scope cl C X.env) fp) W0 ifs tt)
    (hk : ∀ (s : Shared) (H : Hp) (C : Addr) (cl : List (Str × Addr)) (fp : List Addr), QE T (X.blk s H scope (compEnvC scope cl C X.env) fp) W0 kx tk)
    (hv : ∀ (s : Shared) (H : Hp) (C : Addr) (cl : List (Str × Addr)) (fp : List Addr), QE T (X.blk s H scope (compEnvC scope cl C X.env) fp) W0 vx tv) (hs : ∀ x, foldedSetIterable iter X.env x = pure x := by intro _; rfl) :
    QE T X W (.DictComp kx vx [⟨tg, iter, ifs, 0⟩] scope pos) (wDc wi gd tt tk tv (own.map (·.2))) :=
  QE.of (pe_dc hc hN hi.pi ok hg (fun s H C cl fp => (ht s H C cl fp).pts) (fun s H C cl fp => (hk s H C cl fp).pe) (fun s H C cl fp => (hv s H C cl fp).pe) hs) fun env G σ H Q Ex Qv rs rh ex q k =>
    dc_in (fin := fun _ ks xs => .dic ks xs) (gfin := fun p G => gdel G p) go (fun p ks xs G H rh g => by
      obtain ⟨us, hx, l, r⟩ := rh p _ g
      exact ⟨.dic gdel_same hx rfl l (r.keep Keep.freeze), rh.freeze p, fun G1 H1 k => k.trans Keep.freeze⟩) rs rh ex q k
/-! ### d[k] = v -/
def dputO (x y z : D) (G : GH) (Q : GH → Prop) : Prop := ∃ a ks vs k, x = .ref a ∧ G a = some (.dic ks vs) ∧ keyD y = some k ∧ ks.length < sizeLine ∧ Q (gset G a (.dic (putKs ks k) (putVs ks vs k z)))
end
end DL
set_option Elab.async false
set_option linter.all false
set_option maxRecDepth 100000
set_option maxHeartbeats 4000000
namespace DL
open PySem PySem.Spec PyProof.Rows L2
section
variable {T : Tb} {X : Cx} {W : WX} {G : GH} {H : Hp} {a b e o i : Expr} {es : List Expr} {te to ti : TEd} {u : TAd} {pos pos' p apos : Pos}
def wDPut (te to ti : TEd) : TSd := fun De env G => te env G (fun z G1 => to env G1 (fun x G2 => ti env G2 (fun y G3 => dputO x y z G3 fun G4 => De.nx env G4) (fun c ds G' => De.ex c ds env G')) (fun c ds G' => De.ex c ds env G')) (fun c ds G' => De.ex c ds env G')
theorem q_dput (hu : X.A.units + 64 < cLine) (he : QE T X W e te) (ho : QE T X W o to) (hi : QE T X W i ti) (hs : swapsWith e (some (.Subscript o i pos')) pos.line X.env = pure false := by rfl) : QS T X W (.Assign [.Subscript o i pos'] e pos) (wDPut te to ti) :=
  QS.of (ps_dput (by omega) ho.pe hi.pe he.pe hs) fun env G De Dv σ H rs rh ex en q => intoE rs rh (ex.at rs) q fun z zv G1 H1 rz rh1 k1 q1 =>
    intoE (rs.keep k1) rh1 ((ex.at rs).keep k1) q1 fun x xv G2 H2 rx rh2 k2 q2 => intoE ((rs.keep k1).keep k2) rh2 (((ex.at rs).keep k1).keep k2) q2 fun y yv G3 H3 ry rh3 k3 q3 => by
      obtain ⟨a, ks, vs, k, ex', g, hk, hl, q4⟩ := q3
      subst ex'
      have rx := rx.keep k3
      cases rx
      obtain ⟨us, hu, lu, ru⟩ := rh3 a _ g
      have kp : Keep G3 H3 (gset G3 a (.dic (putKs ks k) (putVs ks vs k z))) (upd H3 a (.dK (putK (ks.zip us) k zv))) := Keep.put g
      have ln : (ks.zip us).length < sizeLine := by
        rw [List.length_zip]
        omega
      refine ⟨a, _, rfl, .inl ⟨_, k, hu, key_val ry hk, ln, rfl⟩, en.nx _ _ _ _ (rs.keep (((k1.trans k2).trans k3).trans kp)) (rh3.put (d := .dic (putKs ks k) (putVs ks vs k z)) g ⟨putVs ks us k zv, by rw [upd_same, put_zip lu], put_len lu, (ru.keep kp).putVs (((rz.keep k2).keep k3).keep kp) k⟩) (((k1.trans k2).trans k3).trans kp) q4⟩
theorem ip_mulC : PIp X .Mult (rI CMul fun i j => .int (i * j)) := iop_mul
abbrev augMul : O2 := intO CMul fun i j => .int (i * j)
theorem oi_mulC : OpI T (rI CMul fun i j => .int (i * j)) augMul := oi_int fun _ _ _ _ => .int _
/-! ### wrappers -/
theorem q_list (hK : X.K = T.K) (hm : X.mg "list" = none) (ha : QA T X W (e :: es) u) (hg : Gl X "list" := by rfl) (he : starEach (e :: es) X.env = (false, eval e X.env) :: starEach es X.env := by rfl) (hpl : (backTo pos (starEach es X.env)).any (·.1) = false := by rfl) :
    QE T X W (.Call (.Name "list" p) (e :: es) [] pos) (wCall listFO u) := q_callTy call_list_of (ci_listF hK) hg hm rfl ha (by decide) (by decide) he hpl
theorem q_listM (hK : X.K = T.K) (hm : X.mg "list" = none) (ha : QA T X W (e :: es) u) (hg : Gl X "list" := by rfl) (he : starEach (e :: es) X.env = (false, eval e X.env) :: starEach es X.env := by rfl) (hpl : (backTo pos (starEach es X.env)).any (·.1) = false := by rfl) :
    QE T X W (.Call (.Name "list" p) (e :: es) [] pos) (wCall listO u) := q_callTy call_list_of (ci_list hK) hg hm rfl ha (by decide) (by decide) he hpl
theorem q_tuple (hK : X.K = T.K) (hm : X.mg "tuple" = none) (ha : QA T X W (e :: es) u) (hg : Gl X "tuple" := by rfl) (he : starEach (e :: es) X.env = (false, eval e X.env) :: starEach es X.env := by rfl) (hpl : (backTo pos (starEach es X.env)).any (·.1) = false := by rfl) :
    QE T X W (.Call (.Name "tuple" p) (e :: es) [] pos) (wCall tupleO u) := q_callTy call_tuple_of (ci_tuple hK) hg hm rfl ha (by decide) (by decide) he hpl
theorem q_intS (hm : X.mg "int" = none) (ha : QA T X W (e :: es) u) (hg : Gl X "int" := by rfl) (he : starEach (e :: es) X.env = (false, eval e X.env) :: starEach es X.env := by rfl) (hpl : (backTo pos (starEach es X.env)).any (·.1) = false := by rfl) :
    QE T X W (.Call (.Name "int" p) (e :: es) [] pos) (wCall intSO u) := q_callTy call_int_str ci_intS hg hm rfl ha (by decide) (by decide) he hpl
theorem q_sum (hc : X.calm = true) (hK : X.K = T.K) (hm : X.mg "sum" = none) (ha : QA T X W (e :: es) u) (hg : Gl X "sum" := by rfl) (he : starEach (e :: es) X.env = (false, eval e X.env) :: starEach es X.env := by rfl) (hpl : (backTo pos (starEach es X.env)).any (·.1) = false := by rfl) :
    QE T X W (.Call (.Name "sum" p) (e :: es) [] pos) (wCall sumO u) := q_callB (cr_sum hc) (ci_sum hK) hg hm rfl ha (by decide) (by decide) he hpl
theorem q_popAt (hK : X.K = T.K) (ho : QE T X W o to) (ha : QA T X W [e] u) (hbase : attributeBase o "pop" X.env (eval o X.env) = eval o X.env := by rfl)
    (hfew : ((backTo pos (starEach [e] X.env)).all (fun x => !x.1) && (backToKw pos (keywordEach [] X.env)).all (fun x => x.1.isSome) && decide (([e] : List Expr).length + ([] : List Keyword).length + (if ([] : List Keyword).isEmpty then 0 else 1) < 30)) = true := by rfl)
    (hline : (apos.endLine == pos.line) = true := by rfl) (hs : starEach [e] X.env = (false, eval e X.env) :: starEach [] X.env := by rfl) (hplain : (backTo pos (starEach [] X.env)).any (·.1) = false := by rfl) :
    QE T X W (.Call (.Attribute o "pop" apos) [e] [] pos) (wML popAtO to u) :=
  q_ml mi_popAt (pe_bm PySem.F.plainAttrs_list PySem.F.slot_list_pop PySem.F.type_list_pop mt_popAt ho.pe ha.pa hbase hfew hline hs hplain)
theorem q_reverse (ho : QE T X W o to) (hbase : attributeBase o "reverse" X.env (eval o X.env) = eval o X.env := by rfl) (hline : (apos.endLine == pos.line) = true := by rfl) :
    QE T X W (.Call (.Attribute o "reverse" apos) [] [] pos) (wML0 reverseO to) :=
  q_ml0 mi_reverse (pe_bm0 PySem.F.plainAttrs_list PySem.F.slot_list_reverse PySem.F.type_list_reverse mt_reverse ho.pe hbase hline)
theorem q_split (ho : QE T X W o to) (ha : QA T X W [e] u) (hbase : attributeBase o "split" X.env (eval o X.env) = eval o X.env := by rfl)
    (hfew : ((backTo pos (starEach [e] X.env)).all (fun x => !x.1) && (backToKw pos (keywordEach [] X.env)).all (fun x => x.1.isSome) && decide (([e] : List Expr).length + ([] : List Keyword).length + (if ([] : List Keyword).isEmpty then 0 else 1) < 30)) = true := by rfl)
    (hline : (apos.endLine == pos.line) = true := by rfl) (hs : starEach [e] X.env = (false, eval e X.env) :: starEach [] X.env := by rfl) (hplain : (backTo pos (starEach [] X.env)).any (·.1) = false := by rfl) :
    QE T X W (.Call (.Attribute o "split" apos) [e] [] pos) (wMS splitO to u) :=
  q_bmS (id := "str.split") (pe_bm PySem.F.plainAttrs_str PySem.F.slot_str_split PySem.F.type_str_split mt_split ho.pe ha.pa hbase hfew hline hs hplain) mi_split
end
end DL
set_option Elab.async false
set_option linter.all false
set_option maxRecDepth 100000
set_option maxHeartbeats 4000000
namespace DL
open PySem PySem.Spec PyProof.Rows L2
/-! ### targets within targets -/
inductive Pt where
  | nm (i : Nat)
  | tp (ps : List Pt)
mutual
def gdP : Pt → D → Ev → Option Ev
  | .nm i, d, env => some (env.set i (some d))
  | .tp ps, .tup ds, env => gdPs ps ds env
  | .tp _, _, _ => none
def gdPs : List Pt → List D → Ev → Option Ev
  | [], [], env => some env
  | p :: ps, d :: ds, env => match gdP p d env with
    | some env' => gdPs ps ds env'
    | none => none
  | _, _, _ => none
end
mutual
def gP (K : PySem.W.Frag) : Pt → TG
  | .nm i => gName i
  | .tp ps => gTup K ps.length (gPs K ps)
def gPs (K : PySem.W.Frag) : List Pt → TGs
  | [] => gNil
  | p :: ps => gCons (gP K p) (gPs K ps)
end
mutual
def Pt.slots : Pt → List Nat
  | .nm i => [i]
  | .tp ps => Pt.slotsL ps
def Pt.slotsL : List Pt → List Nat
  | [] => []
  | p :: ps => p.slots ++ Pt.slotsL ps
end
theorem gdPs_len : ∀ {ps : List Pt} {ds : List D} {env env' : Ev}, gdPs ps ds env = some env' → ds.length = ps.length
  | [], [], _, _, _ => rfl
  | [], _ :: _, _, _, h => by unfold gdPs at h; cases h
  | _ :: _, [], _, _, h => by unfold gdPs at h; cases h
  | p :: ps, d :: ds, env, env', h => by
    unfold gdPs at h
    cases e : gdP p d env with
    | none => rw [e] at h; cases h
    | some env1 => rw [e] at h; exact congrArg (· + 1) (gdPs_len h)
section
variable {T : Tb} {X : Cx} {W : WX} {K : PySem.W.Frag} {vs : List Nat} {G : GH} {H : Hp}
mutual
theorem gP_in (hK : K = T.K) : ∀ (p : Pt) {d : D} {x : V} {env env' : Ev} {σ : List (Option V)} {Qg : List (Option V) → Hp → Prop}, (∀ i ∈ p.slots, i ∈ vs) → RV T G H d x → RS T G H env σ → gdP p d env = some env' →
    (∀ σ', RS T G H env' σ' → wipe σ' vs = wipe σ vs → Qg σ' H) → gP K p x σ H Qg
  | .nm i, d, x, env, env', σ, Qg, hm, r, rs, e, k => by
    unfold gdP at e
    cases e
    unfold gP
    exact k _ (rs.set i r) (wipe_mem σ i _ vs (hm i (by unfold Pt.slots; exact List.mem_singleton.mpr rfl)))
  | .tp ps, d, x, env, env', σ, Qg, hm, r, rs, e, k => by
    cases r with
    | tup hx l r =>
      unfold gdP at e
      unfold gP
      have hq := hx.sq
      rw [← hK] at hq
      exact ⟨_, _, rfl, hq, by rw [← r.length]; exact gdPs_len e, gPs_in hK ps (fun i hi => hm i (by unfold Pt.slots; exact hi)) r rs e k⟩
    | _ => unfold gdP at e; cases e
theorem gPs_in (hK : K = T.K) : ∀ (ps : List Pt) {ds : List D} {xs : List V} {env env' : Ev} {σ : List (Option V)} {Qg : List (Option V) → Hp → Prop}, (∀ i ∈ Pt.slotsL ps, i ∈ vs) → RVs T G H ds xs → RS T G H env σ → gdPs ps ds env = some env' →
    (∀ σ', RS T G H env' σ' → wipe σ' vs = wipe σ vs → Qg σ' H) → gPs K ps xs σ H Qg
  | [], _, _, env, env', σ, Qg, hm, .nil, rs, e, k => by
    unfold gdPs at e
    cases e
    unfold gPs
    exact ⟨rfl, k σ rs rfl⟩
  | [], _, _, _, _, _, _, _, .cons _ _, _, e, _ => by unfold gdPs at e; cases e
  | _ :: _, _, _, _, _, _, _, _, .nil, _, e, _ => by unfold gdPs at e; cases e
  | p :: ps, _, _, env, env', σ, Qg, hm, .cons (d := d) (ds := ds) r rr, rs, e, k => by
    unfold gdPs at e
    unfold Pt.slotsL at hm
    cases e1 : gdP p d env with
    | none => rw [e1] at e; cases e
    | some env1 =>
      rw [e1] at e
      unfold gPs
      exact ⟨_, _, rfl, gP_in hK p (fun i hi => hm i (List.mem_append_left _ hi)) r rs e1 fun σ1 rs1 w1 =>
        gPs_in hK ps (fun i hi => hm i (List.mem_append_right _ hi)) rr rs1 e fun σ2 rs2 w2 => k σ2 rs2 (w2.trans w1)⟩
end
def gdPat (p : Pt) : TGd := fun d env G Q _ => ∃ env', gdP p d env = some env' ∧ Q env' G
theorem gok_pat (hK : K = T.K) (p : Pt) (h : ∀ i ∈ p.slots, i ∈ vs) : GOk T vs (gP K p) (gdPat p) := fun d x env σ G H Q Ex Qg rd rs ⟨env', e, q⟩ k => gP_in hK p h rd rs e fun σ' a b => k env' σ' a b q
variable {es : List Expr} {x : Str} {pos p : Pos}
theorem pgp_nm {i : Nat} (hN : X.N.Nodup) (hi : X.N[i]? = some x) (hx : Loc X.env.scope x) (hf : X.fn x = true ∨ X.env.scope.names.lookup x = some .local := by first | exact .inl rfl | exact .inr rfl | assumption) : PG X (.Name x p) (gP K (.nm i)) := by
  unfold gP
  exact pg_name hN hi hx hf
theorem pgp_tp {ps : List Pt} {k : Nat} (hK : X.K = K) (hc : X.calm = true) (h : PGs X es (gPs K ps)) (hn : (assignEach es X.env).length = ps.length := by rfl) (hst : (assignEach es X.env).findIdx? (·.1) = none := by rfl) : PG X (.Tuple es k pos) (gP K (.tp ps)) := by
  subst hK
  unfold gP
  exact pg_tup hc h hn hst
theorem pgps_nil : PGs X [] (gPs K []) := by unfold gPs; exact pgs_nil
theorem pgps_cons {e : Expr} {q : Pt} {ps : List Pt} (h1 : PG X e (gP K q)) (h2 : PGs X es (gPs K ps)) (hs : (assignEach (e :: es) X.env).map (·.2) = assign e X.env :: (assignEach es X.env).map (·.2) := by rfl) : PGs X (e :: es) (gPs K (q :: ps)) := by
  unfold gPs
  exact pgs_cons h1 h2 hs
/-- as a target of a plain assignment or a for -/
theorem qg_pat {e : Expr} {q : Pt} (hK : K = T.K) (h : PG X e (gP K q)) : QG T X W e (gdPat q) :=
  ⟨PG.imp h fun v σ H Qg ⟨d, env, G, Q, Ex, rd, rs, rh, ex, ⟨env', e, q'⟩, kk⟩ => gP_in (vs := q.slots) hK q (fun i h => h) rd rs e fun σ' a b => kk env' G σ' H a rh (Keep.refl _ _) q'⟩
end
end DL
set_option Elab.async false
set_option linter.all false
set_option maxRecDepth 100000
set_option maxHeartbeats 4000000
namespace DL
open PySem PySem.Spec PyProof.Rows L2
/-! ### facts of the written part, told by a test of one's own -/
abbrev AlX : Type := Bool × He.AlD
def obsX (fa : List He.Fa) (fn : List He.DefD) (fb : PySem.W.Frag → Bool) (K : PySem.W.Frag) : AlX := (fb K, He.obsD fa fn K)
def obsXG (n : Nat) (fa : List He.Fa) (fn : List He.DefD) (fb : PySem.W.Frag → Bool) (g : Addr → Option Obj) : AlX := obsX fa fn fb (He.frG g (He.asD g n))
def hookX (n : Nat) (fa : List He.Fa) (fn : List He.DefD) (fb : PySem.W.Frag → Bool) : PySem.W.Hook where
  α := AlX
  obs := fun s => obsXG n fa fn fb s.heap.get?
  val := fun _ => (true, He.valD fn)
  says := fun _ h => ∃ K : PySem.W.Frag, K.In h ∧ He.SaysD fa fn K ∧ fb K = true
  of := fun _ _ e => ⟨_, He.frG_in, congrArg Prod.snd e, congrArg Prod.fst e⟩
  keeps := fun _ _ _ ⟨K, hK, c⟩ k => ⟨K, PySem.W.Frag.In.keeps hK k, c⟩
theorem obsXG_eq {n : Nat} {fa : List He.Fa} {fn : List He.DefD} {fb : PySem.W.Frag → Bool} {g : Addr → Option Obj} {s : Shared} (h : ∀ a, g a = s.heap.get? a) : obsXG n fa fn fb g = (hookX n fa fn fb).obs s := by
  have e : g = s.heap.get? := funext h
  rw [e]
  rfl
/-! ### isinstance(x, C), C a class of the program -/
/-- n classes; sub c' c: c' is c or below it -/
structure KitOk (T : Tb) (n : Nat) (sub : Nat → Nat → Bool) : Prop where
  ty : ∀ c, c < n → ∀ a ∈ tyNames, PySem.W.kitOne T.K (.type a) (.ref (T.cls c)) = some false
  own : ∀ c, c < n → ∀ c', c' < n → PySem.W.kitOne T.K (.ref (T.cls c')) (.ref (T.cls c)) = some (sub c' c)
  ins : ∀ c, c < n → ∀ (H : Hp) (a dx : Addr) (fs : List (Str × V)), H a = some (.ins (T.cls c) dx fs) → TyOf T.K H (.ref a) (.ref (T.cls c))
/-- the test of it: ns the classes' names -/
def kitTest (ns : List Str) (sub : Nat → Nat → Bool) (K : PySem.W.Frag) : Bool :=
  (List.range ns.length).all fun c => (tyNames.all fun a => decide (PySem.W.kitOne K (.type a) (.ref (He.ga K (ns.getD c ""))) = some false)) &&
    (((List.range ns.length).all fun c' => decide (PySem.W.kitOne K (.ref (He.ga K (ns.getD c' ""))) (.ref (He.ga K (ns.getD c ""))) = some (sub c' c))) &&
      (decide (PySem.W.findIn K (.ref (He.ga K (ns.getD c ""))) "__class__" = some (some (.builtin "object.__class__"))) && (decide (PySem.W.specialIn K (.builtin "object.__class__") "__get__" = some (some (.builtin "getset_descriptor.__get__"))) &&
        (decide (PySem.W.takesIn K (.builtin "object.__class__") = some true) && decide (PySem.W.mroIn K (He.ga K (ns.getD c "")) (.type "object") = some true)))))
theorem kit_test {ns : List Str} {sub : Nat → Nat → Bool} {T : Tb} (hT : T.cls = fun c => He.ga T.K (ns.getD c "")) (hC : ∀ c, c < ns.length → Cls T.K (T.cls c)) (h : kitTest ns sub T.K = true) : KitOk T ns.length sub := by
  have one : ∀ c, c < ns.length → _ := fun c hc => List.all_eq_true.mp h c (List.mem_range.mpr hc)
  refine ⟨fun c hc a ha => ?_, fun c hc c' hc' => ?_, fun c hc H a dx fs hx => ?_⟩
  · have h1 := (Bool.and_eq_true_iff.mp (one c hc)).1
    rw [hT]
    exact of_decide_eq_true (List.all_eq_true.mp h1 a ha)
  · have h2 := (Bool.and_eq_true_iff.mp (Bool.and_eq_true_iff.mp (one c hc)).2).1
    rw [hT]
    exact of_decide_eq_true (List.all_eq_true.mp h2 c' (List.mem_range.mpr hc'))
  · obtain ⟨h3, h4⟩ := Bool.and_eq_true_iff.mp (Bool.and_eq_true_iff.mp (Bool.and_eq_true_iff.mp (one c hc)).2).2
    obtain ⟨h5, h6⟩ := Bool.and_eq_true_iff.mp h4
    obtain ⟨h7, h8⟩ := Bool.and_eq_true_iff.mp h6
    have cl := hC c hc
    rw [hT] at hx cl ⊢
    exact .ins hx cl (of_decide_eq_true h3) (of_decide_eq_true h5) (of_decide_eq_true h7) (of_decide_eq_true h8)
/-- is x of the class c -/
def isC (n : Nat) (sub : Nat → Nat → Bool) (c : Nat) (x : D) (G : GH) (Q : Bool → Prop) : Prop := match x with
  | .obj c' _ => c' < n ∧ Q (sub c' c)
  | .ref a => match G a with
    | some (.ins c' _) => c' < n ∧ Q (sub c' c)
    | some (.exo _) => False
    | some (.dct _ _) => False
    | some _ => Q false
    | none => False
  | .ty _ => False
  | .exc _ _ _ _ => False
  | _ => Q false
def wIsiC (n : Nat) (sub : Nat → Nat → Bool) (c : Nat) (te : TEd) : TEd := fun env G Q Ex => te env G (fun x G1 => isC n sub c x G1 fun b => Q (.bl b) G1) Ex
section
variable {T : Tb} {X : Cx} {W : WX} {G : GH} {H : Hp} {e : Expr} {te : TEd} {x : Str} {pos p p2 : Pos} {n c : Nat} {sub : Nat → Nat → Bool}
theorem isC_ty {d : D} {v : V} {Q : Bool → Prop} (K : KitOk T n sub) (hc : c < n) (rh : RH T G H) (r : RV T G H d v) (h : isC n sub c d G Q) : ∃ t b, TyX T.K H v t ∧ PySem.W.kitOne T.K t (.ref (T.cls c)) = some b ∧ Q b := by
  have plain : ∀ {a : String}, tyD G d = some a → Q false → ∃ t b, TyX T.K H v t ∧ PySem.W.kitOne T.K t (.ref (T.cls c)) = some b ∧ Q b := fun {a} ht q => ⟨_, false, tyX_of rh r ht, K.ty c hc a (tyD_mem ht), q⟩
  cases r with
  | obj g hx hl rr => exact ⟨_, _, .base (K.ins _ h.1 H _ _ _ hx), K.own c hc _ h.1, h.2⟩
  | ref a =>
    have h : (match G a with
      | some (.ins c' _) => c' < n ∧ Q (sub c' c)
      | some (.exo _) => False
      | some (.dct _ _) => False
      | some _ => Q false
      | none => False) := h
    cases eg : G a with
    | none => rw [eg] at h; exact h.elim
    | some o =>
      cases o with
      | lst ds => rw [eg] at h; exact plain (a := "list") (by show tyO (G a) = _; rw [eg]; rfl) h
      | dic ks ds => rw [eg] at h; exact plain (a := "dict") (by show tyO (G a) = _; rw [eg]; rfl) h
      | ins c' ds =>
        rw [eg] at h
        obtain ⟨dx, xs, hx, _⟩ := rh a _ eg
        exact ⟨_, _, .base (K.ins _ h.1 H _ _ _ hx), K.own c hc _ h.1, h.2⟩
      | exo _ => rw [eg] at h; exact h.elim
      | dct _ _ => rw [eg] at h; exact h.elim
  | ty _ => exact h.elim
  | exc _ _ _ _ => exact h.elim
  | tupp _ _ _ _ _ _ => exact plain rfl h
  | non => exact plain rfl h
  | bl _ => exact plain rfl h
  | int _ => exact plain rfl h
  | str _ => exact plain rfl h
  | tup _ _ _ => exact plain rfl h
  | lst _ _ _ _ => exact plain rfl h
  | frl _ _ _ => exact plain rfl h
  | dic _ _ _ _ _ => exact plain rfl h
theorem q_isiC (hK : X.K = T.K) (K : KitOk T n sub) (hc : c < n) (hm : X.mg "isinstance" = none) (hx : X.mg x = some (.ref (T.cls c))) (he : QE T X W e te) (hg : Gl X "isinstance" := by rfl) (hgx : Gl X x := by rfl) (hd : (x == ("__debug__" : Str)) = false := by decide)
    (hs1 : starEach [e, .Name x p2] X.env = (false, eval e X.env) :: starEach [.Name x p2] X.env := by rfl) (hs2 : starEach [.Name x p2] X.env = (false, eval (.Name x p2) X.env) :: starEach [] X.env := by rfl)
    (hpl : (backTo pos (starEach [.Name x p2] X.env)).any (·.1) = false := by rfl) : QE T X W (.Call (.Name "isinstance" p) [e, .Name x p2] [] pos) (wIsiC n sub c te) :=
  QE.of (pe_callB call_isi hg hm rfl (pa_cons he.pe (pa_cons (pe_glob (v := .ref (T.cls c)) hgx hx rfl hd) pa_nil hs2) hs1) (by decide) (by decide) hs1 hpl) fun env G σ H Q Ex Qv rs rh ex q k => intoE rs rh ex q fun d v G1 H1 rd rh1 k1 q1 => by
    obtain ⟨t, b, h1, h2, h3⟩ := isC_ty K hc rh1 rd q1
    refine ⟨v, .ref (T.cls c), t, .ref (T.cls c), b, rfl, .own _, ?_, ?_, k _ _ G1 H1 (.bl b) rh1 k1 h3⟩
    · rw [hK]; exact h1
    · rw [hK]; exact h2
end
end DL
set_option Elab.async false
set_option linter.all false
set_option maxRecDepth 100000
set_option maxHeartbeats 4000000
namespace DL
open PySem PySem.Spec PyProof.Rows L2
/-! ### != where the class has an __eq__ and no __ne__ -/
section
open Builtin
variable {prog : Program} {w : World} {A : Around} {E : Value → Shared → Prop} {s : Shared} {K : PySem.W.Frag} {x C f L : Addr} {ox : Obj} {od : Option Obj} {b tb : Value} {h₀ : Heap} {m : Str → Option Value}
/-- what an __eq__ answers -/
def EqBack (Q : Bool → Shared → Prop) (v : Value) (s' : Shared) : Prop := ∃ c, v = .bool c ∧ Q c s'
theorem bound_slot {name : Str} {id : String} {args : List Value} {Q : Option Value → Shared → Prop} (X : K.In s.heap) (I : PySem.W.InstAt s.heap x ox C od) (hs : PySem.W.findIn K (.ref C) name = some (some (.builtin id)))
    (hb : ∀ self, bindSpecial (.builtin id) self = pure (.builtin id, [self])) (h : wpAny (model prog w) A (call (.builtin id) (.ref x :: args)) (fun v => Q (some v)) E s) : wpAny (model prog w) A (callSpecialIfBound? (.ref x) name args) Q E s := by
  simp only [callSpecialIfBound?, bindSpecialIfBound?]
  refine wpAny_holding (wpAny_bind (wpAny_bind (wpAny_bind (I.type.here ((PySem.W.looks_findIn X hs).here ?_)))))
  have last : wpAny (model prog w) A (call (.builtin id) ([.ref x] ++ args) >>= fun v => pure (some v)) Q E s := wpAny_bind (wpAny_mono h (fun v s' z => wpAny_pure z) fun _ _ z => z)
  simp only [hb]
  refine wpAny_bind (wpAny_askSetting (wpAny_ite ?_))
  split
  · exact wpAny_bind (wpAny_pure (wpAny_pure last))
  · exact wpAny_tryCatch (wpAny_bind (wpAny_pure (wpAny_pure last)))
theorem ne_slot {Q : Value → Shared → Prop} (hu : A.in1.units < cLine) (X : K.In s.heap) (I : PySem.W.InstAt s.heap x ox C od) (hm : PySem.W.mroIn K C (.type "object") = some true) (he : PySem.W.findIn K (.ref C) "__eq__" = some (some (.ref f))) (hf : PySem.W.isFn K (.ref f) = true)
    (h : wpAny (model prog w) A.in1 (call (.ref f) [.ref x, b]) (EqBack fun c s' => Q (.bool (!c)) s') E s) : wpAny (model prog w) A (call (.builtin "object.__ne__") [.ref x, b]) Q E s := by
  refine wpAny_call (codeAny_call_builtin PySem.F.cmp_object.ne.plain PySem.F.cmpEntry_ne (PySem.W.check_slot (i := "object.__ne__") (owner := "object") (n := "__ne__") (by decide +kernel) (by decide +kernel) (I.type.andThen (PySem.W.looks_mroIn X hm)) (PySem.F.cmpArgs_ne _ _) ?_))
  unfold Builtin.«object.__ne__»
  refine wpAny_bind (m := slotArgs "__ne__" 1 _) (wpAny_pure ?_)
  refine wpAny_bind (m := cRoomFor _ _) (wpAny_cRoomFor hu ?_)
  refine wpAny_bind (m := callSpecialIfBound? (.ref x) (Str.ofString "__eq__") [b]) (PySem.W.ifBound_K X I he hf (wpAny_mono h (fun r s' hq => ?_) fun _ _ y => y))
  obtain ⟨c, rfl, hq⟩ := hq
  refine wpAny_bind (m := truthy (.bool c)) (wpAny_truthy_bool ?_)
  exact wpAny_pure hq
theorem ne_own {Q : Value → Shared → Prop} (hu : A.units < cLine) (hu1 : A.in1.units < cLine) (X : K.In s.heap) (I : PySem.W.InstAt s.heap x ox C od) (hb : PySem.W.Looks (model prog w) s.heap (typeOf b) tb) (hn : PySem.W.notFirst K C tb = true)
    (hs : PySem.W.findIn K (.ref C) "__ne__" = some (some (.builtin "object.__ne__"))) (hm : PySem.W.mroIn K C (.type "object") = some true) (he : PySem.W.findIn K (.ref C) "__eq__" = some (some (.ref f))) (hf : PySem.W.isFn K (.ref f) = true)
    (h : wpAny (model prog w) A.in1 (call (.ref f) [.ref x, b]) (EqBack fun c s' => Q (.bool (!c)) s') E s) : wpAny (model prog w) A (richCompare .NotEq (.ref x) b) Q E s := by
  have one : wpAny (model prog w) A (tryCompare (.ref x) (cmpInfo .NotEq).2.1 b) (fun r s' => ∃ v, r = some v ∧ Q v s') E s := by
    unfold tryCompare
    refine wpAny_bind (bound_slot X I hs PySem.F.cmp_object.ne.bind (ne_slot hu1 X I hm he hf (wpAny_mono h (fun v s' hv => ?_) fun _ _ e => e)))
    obtain ⟨c, rfl, hq⟩ := hv
    exact ⟨c, rfl, wpAny_pure ⟨_, rfl, hq⟩⟩
  unfold richCompare
  simp only [oneThing_ref]
  refine wpAny_holding (wpAny_bind (wpAny_cRoomFor hu ?_))
  refine wpAny_bind (I.type.here (wpAny_bind (hb.here ?_)))
  have rest : wpAny (model prog w) A (tryCompare (.ref x) (cmpInfo .NotEq).2.1 b) (fun r s' => ∃ v, r = some v ∧ Q v s') E s := one
  split
  · rename_i q
    have e : PySem.W.subIn K tb (.ref C) = some false := by
      rcases Bool.or_eq_true_iff.mp hn with e | e
      · rw [beq_iff_eq.mp e] at q; simp at q
      · exact beq_iff_eq.mp e
    refine wpAny_bind ((PySem.W.looks_subIn X e).here ?_)
    simp only [Bool.false_eq_true, if_false]
    refine wpAny_bind (wpAny_mono rest (fun r s' z => ?_) fun _ _ e => e)
    obtain ⟨v, rfl, hq⟩ := z
    exact wpAny_pure hq
  · refine wpAny_bind (wpAny_pure ?_)
    simp only [Bool.false_eq_true, if_false]
    refine wpAny_bind (wpAny_mono rest (fun r s' z => ?_) fun _ _ e => e)
    obtain ⟨v, rfl, hq⟩ := z
    exact wpAny_pure hq
end
section
variable {T : Tb} {X : Cx} {W : WX} {a b : Expr} {ta tb : TEd} {pos : Pos}
/-- the class's __ne__ is object's -/
structure NeOk (T : Tb) (c : Nat) : Prop where
  ne : PySem.W.findIn T.K (.ref (T.cls c)) "__ne__" = some (some (.builtin "object.__ne__"))
  mro : PySem.W.mroIn T.K (T.cls c) (.type "object") = some true
def neOwnO (c : Nat) (sp : DSp) : O2 := fun x y G Q => insO c x G ∧ rightO c y G ∧ sp [x, y] G (fun d G' => ∃ b, d = .bl b ∧ Q (.bl (!b)) G') fun _ _ _ => False
def rNeOwn (T : Tb) (c : Nat) (sp : DSp) : R2 := fun x y H Q => ∃ G dx dy, RV T G H dx x ∧ RV T G H dy y ∧ RH T G H ∧ insO c dx G ∧ rightO c dy G ∧ liftSp T sp [x, y] H (fun v H' => ∃ b, v = .bl b ∧ Q (.bl (!b)) H') (WE W0 [])
theorem oi_neOwn {c : Nat} {sp : DSp} : OpI T (rNeOwn T c sp) (neOwnO c sp) := by
  intro G H x y v u Q Qv rh rx ry ⟨h1, h2, q⟩ k
  refine ⟨G, x, y, rx, ry, rh, h1, h2, [x, y], G, _, _, .cons rx (.cons ry .nil), rh, q, fun v' H' ⟨d, G', a, b, c', e, ed, q'⟩ => ?_, fun _ _ _ _ _ _ z => z.elim⟩
  subst ed
  cases a
  exact ⟨e, rfl, k _ _ G' H' (.bl _) b c' q'⟩
theorem op_neOwn {c k : Nat} {sp : DSp} (hK : X.K = T.K) (C : CalM T X.prog X.w X.mg X.base c "__eq__" k sp) (N : NeOk T c) (hr : RoomG (k + 1) X.A) : OpR X (compareOp .NotEq) (rNeOwn T c sp) := by
  intro pins s σ H x y v u Q I rx ry ⟨G, dx, dy, rdx, rdy, rh, h1, h2, q⟩
  obtain ⟨f, fd, ps, F, hM, hb⟩ := C.ex
  have n1 := N.ne
  have n2 := N.mro
  rw [← hK] at F hM hb n1 n2
  obtain ⟨a, od, eu, ox, J⟩ := ins_look I rh rdx rx h1
  subst eu
  obtain ⟨tb, lb, nb⟩ := right_look hK I rh rdy ry h2
  refine ne_own (tb := tb) hr.r.units0 hr.in1.r.units0 I.kIn J lb nb n1 n2 hM.at_ hM.fn ?_
  have hv := run_GA (σ := σ) (us := [Value.ref a, u]) (takes0 (X := X)) F hr.in1 hb I.env0.in1 I (.cons rx (.cons ry .nil)) q
  refine wpAny_mono hv (fun w s' hw => ?_) fun _ _ z => z
  obtain ⟨z, H', I', rz, b, ez, q'⟩ := hw
  subst ez
  cases rz
  exact ⟨b, rfl, .bl (!b), H', I', rfl, q'⟩
theorem q_neOwn {c k : Nat} {sp : DSp} (hK : X.K = T.K) (C : CalM T X.prog X.w X.mg X.base c "__eq__" k sp) (N : NeOk T c) (hr : RoomG (k + 1) X.A) (ha : QE T X W a ta) (hb : QE T X W b tb) (hm : behindInMarks .NotEq b = false := by first | exact nomark _ | rfl) :
    QE T X W (.Compare a [.NotEq] [b] pos) (wOp (neOwnO c sp) ta tb) := q_cmp (op_neOwn hK C N hr) oi_neOwn ha hb hm
theorem qt_neOwn {c k : Nat} {sp : DSp} (hK : X.K = T.K) (C : CalM T X.prog X.w X.mg X.base c "__eq__" k sp) (N : NeOk T c) (hr : RoomG (k + 1) X.A) (ha : QE T X W a ta) (hb : QE T X W b tb) (hm : behindInMarks .NotEq b = false := by first | exact nomark _ | rfl) :
    QT T X W (.Compare a [.NotEq] [b] pos) (wTest (wOp (neOwnO c sp) ta tb)) := qt_cmp (op_neOwn hK C N hr) oi_neOwn ha hb hm
end
end DL
set_option Elab.async false
set_option linter.all false
set_option maxRecDepth 100000
set_option maxHeartbeats 4000000
namespace DL
open PySem PySem.Spec PyProof.Rows L2
/-! len(set(texts)) -/
/-- is k among the first i of xs -/
def among (xs : List Str) (i : Nat) (k : Str) : Bool := (xs.take i).any (· == k)
/-- how many different ones are among the first i -/
def cntS (xs : List Str) : Nat → Nat
  | 0 => 0
  | i + 1 => if among xs i (xs.getD i Str.empty) = true then cntS xs i else cntS xs i + 1
theorem cntS_le (xs : List Str) : ∀ i, cntS xs i ≤ i
  | 0 => Nat.le_refl _
  | i + 1 => by
    have h := cntS_le xs i
    unfold cntS
    split <;> omega
theorem among_next {xs : List Str} {i : Nat} (h : i < xs.length) (k : Str) : (among xs i k || decide (k = xs.getD i Str.empty)) = among xs (i + 1) k := by
  have e : xs.take (i + 1) = xs.take i ++ [xs.getD i Str.empty] := by
    rw [List.take_succ, List.getD_eq_getElem?_getD, List.getElem?_eq_getElem h]
    rfl
  unfold among
  rw [e, List.any_append]
  congr 1
  by_cases c : k = xs.getD i Str.empty
  · rw [← c]; simp
  · rw [decide_eq_false c]
    simp only [List.any_cons, List.any_nil, Bool.or_false]
    exact (beq_eq_false_iff_ne.mpr fun z => c z.symm).symm
theorem among_iff {xs : List Str} {i : Nat} {k : Str} : among xs i k = true ↔ k ∈ xs.take i := by
  unfold among
  rw [List.any_eq_true]
  exact ⟨fun ⟨x, h, e⟩ => (beq_iff_eq.mp e) ▸ h, fun h => ⟨k, h, beq_self_eq_true k⟩⟩
theorem cntS_nodup {xs : List Str} (h : xs.Nodup) : ∀ i, i ≤ xs.length → cntS xs i = i
  | 0, _ => rfl
  | i + 1, hi => by
    have hl : i < xs.length := hi
    have n : ¬ among xs i (xs.getD i Str.empty) = true := fun z => by
      have m := among_iff.mp z
      rw [List.getD_eq_getElem?_getD, List.getElem?_eq_getElem hl] at m
      obtain ⟨j, hj, e⟩ := List.getElem_of_mem m
      rw [List.length_take] at hj
      rw [List.getElem_take] at e
      exact List.pairwise_iff_getElem.mp h j i (by omega) hl (by omega) e
    unfold cntS
    rw [if_neg n, cntS_nodup h i (by omega)]
theorem cntS_lt {xs : List Str} : ∀ n, n ≤ xs.length → cntS xs n = n → (xs.take n).Nodup
  | 0, _, _ => by rw [List.take_zero]; exact List.nodup_nil
  | n + 1, hn, h => by
    have hl : n < xs.length := hn
    have le := cntS_le xs n
    unfold cntS at h
    split at h
    · omega
    · rename_i c
      have ih := cntS_lt (xs := xs) n (by omega) (by omega)
      have e : xs.take (n + 1) = xs.take n ++ [xs.getD n Str.empty] := by
        rw [List.take_succ, List.getD_eq_getElem?_getD, List.getElem?_eq_getElem hl]
        rfl
      rw [e, List.nodup_append]
      exact ⟨ih, by simp, fun a ha b hb => by
        rw [List.mem_singleton] at hb
        subst hb
        exact fun z => c (among_iff.mpr (z ▸ ha))⟩
abbrev SetI (P : Program) (w : World) (h : Heap) (S : Addr) (xs : List Str) (i : Nat) : Prop := h.SetOf (PySem.strKind P w) S (among xs i) (cntS xs i)
theorem SetI.to {P : Program} {w : World} {h h' : Heap} {S : Addr} {xs : List Str} {i : Nat} (z : SetI P w h S xs i) (k : ∀ o, h.get? S = some o → h'.get? S = some o) : SetI P w h' S xs i :=
  let ⟨o, es, ep, t, a, b⟩ := z; ⟨o, es, ep, t, k o a, b⟩
section
variable {P : Program} {w : World} {A : Around} {R : Result → Shared → Prop} {it : Addr} {fp wr : List Addr} {G : Array GenState → Array GenState → Prop} {n : Nat} {Pv : Nat → Value → Prop} {St : Nat → Shared → Prop}
/-- the loop of set(..), from the i-th text on -/
theorem fillS (W : WalksS P w A.in1 it fp wr G n Pv St) (S : Addr) (out : S ∉ fp) (xs : List Str) (len : xs.length = n) (few : n + 1 < scanBound) (val : ∀ i v, Pv i v → ∃ t, v = Value.str (xs.getD i Str.empty) t) (m : Nat) :
    ∀ (i : Nat) (s : Shared), i + m = n → St i s → SetI P w s.heap S xs i → (∀ u, Moved (S :: wr) G s u → SetI P w u.heap S xs n → R (.ok (.ret .none)) u) → codeAny (model P w) A (.builtin "set.update.loop" ⟨[.ref S, .ref it], []⟩) R s := by
  have far : S ∉ wr := fun z => out (W.sub _ z)
  have wide : ∀ b ∈ wr, b ∈ S :: wr := fun b z => List.mem_cons_of_mem _ z
  induction m with
  | zero =>
    intro i s e st z fin
    obtain rfl : i = n := e
    apply codeAny_builtin PyProof.Rows.F.entry_set_update_loop
    rw [Around.under_plainId PyProof.Rows.F.plain_set_update_loop _]
    apply wpAny_bind (m := pyNext (.ref it))
    exact W.done s _ _ st fun u mv => wpAny_pure (fin u (mv.mono wide) (z.to fun o c => mv.heap S o far c))
  | succ m ih =>
    intro i s e st z fin
    have lt : i < n := by omega
    have lx : i < xs.length := by omega
    have room : cntS xs i + 1 < scanBound := by have := cntS_le xs i; omega
    apply codeAny_builtin PyProof.Rows.F.entry_set_update_loop
    rw [Around.under_plainId PyProof.Rows.F.plain_set_update_loop _]
    apply wpAny_bind (m := pyNext (.ref it))
    refine W.item i s _ _ lt st fun v u pv st1 mv => ?_
    obtain ⟨t, rfl⟩ := val i v pv
    apply wpAny_bind
    apply wpAny_holding
    unfold setAdd
    apply wpAny_holding
    apply wpAny_bind
    apply (PySem.strKind P w).pyHash (k := xs.getD i Str.empty) (strKind_is _ _ _ _)
    refine wpAny_setAddHashed_of (knd := PySem.strKind P w) (s := { u with toks := u.toks + 1 }) (strKind_is _ _ _ _) rfl (z.to fun o c => mv.heap S o far c) room fun h2 same z2 => ?_
    have z3 : SetI P w h2 S xs (i + 1) := SetOf_congr z2 (fun k => among_next lx k) rfl
    refine wpAny_pure ⟨plainId_quiet PyProof.Rows.F.plain_set_update_loop _, ih (i + 1) _ (by omega) (W.frame _ u _ _ st1 (Nat.le_succ _) fun b hb o c => ?_) z3 fun u2 mv2 z4 => fin u2 (Moved.trans W.gtrans ((mv.mono wide).then_heap (Nat.le_succ _) fun b o hb c => ?_) mv2) z4⟩
    · rw [same.2 b fun q => out (q ▸ hb)]; exact c
    · rw [same.2 b fun q => hb (q ▸ List.mem_cons_self)]; exact c
end
section
variable {P : Program} {w : World} {A : Around} {E : Value → Shared → Prop} {s : Shared}
/-- the new set, ahead of its filling -/
abbrev bare (led : Bool) : Obj := { cls := .type "set", dict := none, data := .set #[] 0 (.fresh 0 0 led) }
/-- the filling of a bare set from a tuple -/
theorem init_tup {l : Addr} {items : Array Value} {xs : List Str} {led : Bool} {Q : Value → Shared → Prop} (hh : A.handled = none) (tp : s.heap.IsTuple l items) (ts : PyProof.Rows.StrsAre items.toList xs) (few : xs.length + 1 < scanBound)
    (k : ∀ (h2 : Heap) (tk : Nat), SetI P w h2 s.heap.objs.size xs xs.length → (∀ b o, s.heap.get? b = some o → h2.get? b = some o) → Q .none { s with heap := h2, toks := tk }) :
    codeAny (model P w) A (.call (.builtin "set.__init__") ⟨[.ref s.heap.objs.size, .ref l], []⟩) (wants Q E) { s with heap := s.heap.push (bare led) } := by
  have at0 : (s.heap.push (bare led)).get? s.heap.objs.size = some (bare led) := Heap.get?_push_size _ rfl
  refine codeAny_call_builtin PySem.F.called_set.init.plain PySem.F.entry_set_init (check_set_init_1 ⟨_, at0, rfl⟩ ?_)
  have tp1 : (s.heap.push (bare led)).IsTuple l items := tp.push _
  have low : l < s.heap.objs.size := let ⟨_, z, _⟩ := tp; Heap.lt_size z
  obtain ⟨ob, hob, oc, nn, od⟩ := tp
  obtain ⟨c1, c2, c3, c4⟩ := ob
  simp only at oc od
  subst oc; subst od
  have hob1 : (s.heap.push (bare led)).get? l = some _ := Heap.get?_push_of_some _ hob
  have n1 := PySem.F.sub_tuple_set
  have n2 := PySem.F.sub_tuple_frozenset
  have n3 : (Value.type "tuple" == Value.type "dict") = false := by decide
  unfold Builtin.«set.__init__» noKeywords Builtin.Frozenset.updateFrom
  generalize hit : pyIter = it
  wp_walk
  subst hit
  refine wpAny_pyIter_tuple tp1 (wpAny_bind (wpAny_runValue ?_))
  have big : (s.heap.push (bare led)).objs.size = s.heap.objs.size + 1 := by rw [Heap.size_push]
  have ne : l ≠ (s.heap.push (bare led)).objs.size := by rw [big]; exact Nat.ne_of_lt (Nat.lt_succ_of_lt low)
  have out : s.heap.objs.size ∉ [(s.heap.push (bare led)).objs.size, l] := by
    rw [big]
    intro q
    rcases List.mem_cons.mp q with q | q
    · exact absurd q (Nat.ne_of_lt (Nat.lt_succ_self _))
    · exact absurd (List.mem_singleton.mp q) (Nat.ne_of_gt low)
  have len : xs.length = items.size := by rw [← StrsAre.len_eq ts, Array.length_toList]
  have hd3 : A.in1.in1.handled = none := by simp [hh]
  have few1 : items.size + 1 < scanBound := len ▸ few
  refine fillS ((Walks.tuple hd3 _ l ne items).toS) s.heap.objs.size out xs len few1 (fun i v hv => SS.strs_at ts i v (by rw [Array.getElem?_toList]; exact hv)) items.size 0 _ (Nat.zero_add _) ?_ ?_ ?_
  · exact ⟨⟨_, Heap.get?_push_size _ rfl, rfl, rfl⟩, tp1.push _⟩
  · have at1 : ((s.heap.push (bare led)).push { cls := .type "tuple_iterator", data := .fields #[.ref l, .int 0 0] }).get? s.heap.objs.size = some (bare led) := Heap.get?_push_of_some _ at0
    exact SetOf_congr ((setObjOf_fresh (knd := PySem.strKind P w) led).setOf at1 (by unfold scanBound; omega)) (fun _ => rfl) rfl
  · intro u mv z
    obtain ⟨h2, g2, d2, tk, os2⟩ := u
    obtain rfl : g2 = s.gens := mv.gens
    obtain rfl : d2 = s.drawn := mv.drawn
    obtain rfl : os2 = s.os := mv.os
    refine wpAny_pure (wpAny_pure (k h2 tk (len ▸ z) fun b o c => ?_))
    have lb : b < s.heap.objs.size := Heap.lt_size c
    exact mv.heap b o (by rw [big]; intro q; rcases List.mem_cons.mp q with q | q; (exact absurd q (Nat.ne_of_lt lb)); exact absurd (List.mem_singleton.mp q) (Nat.ne_of_lt (Nat.lt_succ_of_lt lb))) (Heap.get?_push_of_some _ (Heap.get?_push_of_some _ c))
end
end DL
set_option Elab.async false
set_option linter.all false
set_option maxRecDepth 100000
set_option maxHeartbeats 4000000
namespace DL
open PySem PySem.Spec PyProof.Rows L2
section
variable {P : Program} {w : World} {A : Around} {E : Value → Shared → Prop} {s : Shared}
set_option maxHeartbeats 8000000 in
/-- set(t), t a tuple of texts -/
theorem set_tup {l : Addr} {items : Array Value} {xs : List Str} {Q : Value → Shared → Prop} (hh : A.handled = none) (tp : s.heap.IsTuple l items) (ts : PyProof.Rows.StrsAre items.toList xs) (few : xs.length + 1 < scanBound)
    (k : ∀ (h2 : Heap) (tk : Nat), SetI P w h2 s.heap.objs.size xs xs.length → (∀ b o, s.heap.get? b = some o → h2.get? b = some o) → Q (.ref s.heap.objs.size) { s with heap := h2, toks := tk }) :
    wpAny (model P w) A (call (.type "set") [.ref l]) Q E s := by
  have ⟨c0, tl0, e0⟩ := PySem.F.called_set.mro
  have e1 := PySem.F.called_set.made
  have e2 := PySem.F.called_set.sub
  have e3 := PySem.F.called_set.notType
  have e4 := PySem.F.called_set.canCreate
  have e5 := PySem.F.typeCall_set_1 (.ref l)
  apply wpAny_call
  apply codeAny_of_tree
  apply wpAny_pure (a := Fin.again _)
  refine ⟨Code.quiet_builtin _ (by decide +kernel), ?_⟩
  apply codeAny_builtin PySem.F.entry_type_call
  rw [Around.under_plain (weight_type_call_type "set" [.ref l] []) rfl]
  repeat any_goals first | assumption | wp_step
  apply codeAny_mono (code_set_new_1 (.ref l) (E := E) (Q₁ := fun o u => ∃ led : Bool, o = .ref s.heap.objs.size ∧ u = { s with heap := s.heap.push (bare led) }) fun led => ⟨led, rfl, rfl⟩)
  intro r u hr
  match r, hr with
  | .error e, hr => exact hr
  | .ok (.ret _), hr =>
    obtain ⟨led, rfl, rfl⟩ := hr
    have at0 : (s.heap.push (bare led)).get? s.heap.objs.size = some (bare led) := Heap.get?_push_size _ rfl
    have t0 : Shared.TypeIs { s with heap := s.heap.push (bare led) } (.ref s.heap.objs.size) "set" := ⟨_, at0, rfl⟩
    have e6 := PySem.F.called_set.init.lookup
    have e7 := PySem.F.called_set.init.bind (.ref s.heap.objs.size)
    repeat any_goals first | assumption | wp_step
    apply codeAny_mono (init_tup (E := E) (led := led) (by simp [hh]) tp ts few (Q := fun v u => v = .none ∧ ∃ h2 tk, u = { s with heap := h2, toks := tk } ∧ SetI P w h2 s.heap.objs.size xs xs.length ∧ ∀ b o, s.heap.get? b = some o → h2.get? b = some o) fun h2 tk z kp => ⟨rfl, h2, tk, rfl, z, kp⟩)
    intro r u hr
    match r, hr with
    | .error e, hr => exact hr
    | .ok (.ret _), hr =>
      obtain ⟨rfl, h2, tk, rfl, z, kp⟩ := hr
      repeat any_goals first | assumption | wp_step
      exact k h2 tk z kp
end
/-- len(set(x)), x a tuple of texts -/
def wLenSet (te : TEd) : TEd := fun env G Q Ex => te env G (fun d G1 => ∃ ds ys, d = .tup ds ∧ strsD ds = some ys ∧ ys.length ≤ 1000 ∧ Q (.int (cntS ys ys.length : Nat)) G1) Ex
section
variable {T : Tb} {X : Cx} {W : WX}
def tLenSetT (K : PySem.W.Frag) (ta : TE) : TE := fun σ H Q => ta σ H fun x H1 => ∃ l, ∃ xs : List Str, x = .ref l ∧ SqT K H1 l (xs.map V.str) ∧ xs.length ≤ 1000 ∧ Q (.int (cntS xs xs.length : Nat)) H1
theorem pe_lenSetT {a : Expr} {ta : TE} {p p2 q pos : Pos} (hc : X.calm = true) (hg : Gl X "len") (hm : X.mg "len" = none) (hg2 : Gl X "set") (hm2 : X.mg "set" = none) (ha : PE X a ta)
    (na : starEach [a] X.env = (false, eval a X.env) :: starEach [] X.env := by rfl) : PE X (.Call (.Name "len" p) [.Call (.Name "set" p2) [a] [] q] [] pos) (tLenSetT X.K ta) := by
  constructor
  intro pins s σ H Q I h
  refine Call_ (ld_blt I hg hm boot_len (PyProof.Rows.callWith_builtin1 (PyProof.Rows.args_cons ?_ rfl) rfl rfl))
  refine Call_ (ld_blt I hg2 hm2 boot_set (PyProof.Rows.callWith_type1 (PyProof.Rows.args_cons (thn (ha.run pins s σ H _ I h) ?_) na) na rfl))
  rintro v u ⟨x, H1, I1, r1, l, xs, rfl, sq, few, q1⟩
  apply PyProof.Rows.args_nil
  cases r1
  obtain ⟨its, r, pl, hz⟩ := I1.tuple sq
  refine set_tup (I1.ok.hd hc) pl (by simpa using strsAre_of r) (by unfold scanBound; omega) fun h2 tk z kp => PyProof.Rows.args_nil ?_
  obtain ⟨o, es, ep, t, ho, hex, hd, _, _, _, hf, hn⟩ := z
  have I2 : Inv X pins σ H1 { u with heap := h2, toks := tk } := I1.kept kp
  have le := cntS_le xs xs.length
  exact call_len_set ho hex hd hf (by rw [hn]; omega) ⟨.int (cntS xs xs.length : Nat), H1, I2.tok _, ⟨_, by rw [hn]⟩, q1⟩
theorem q_lenSet {a : Expr} {te : TEd} {p p2 q pos : Pos} (hc : X.calm = true) (hK : X.K = T.K) (hm : X.mg "len" = none) (hm2 : X.mg "set" = none) (ha : QE T X W a te) (hg : Gl X "len" := by rfl) (hg2 : Gl X "set" := by rfl)
    (na : starEach [a] X.env = (false, eval a X.env) :: starEach [] X.env := by rfl) : QE T X W (.Call (.Name "len" p) [.Call (.Name "set" p2) [a] [] q] [] pos) (wLenSet te) :=
  QE.of (pe_lenSetT hc hg hm hg2 hm2 ha.pe na) fun env G σ H Q Ex Qv rs rh ex q k => by
    refine intoE rs rh ex q fun d v G1 H1 rv rh1 k1 ⟨ds, ys, e, hs, few, q1⟩ => ?_
    subst e
    cases rv with
    | tup z l rvs =>
      rename_i xs
      have e := strs_rv rvs hs
      subst e
      exact ⟨_, ys, rfl, hK ▸ z.sq, few, k _ _ _ _ (.int _) rh1 k1 q1⟩
end
end DL
set_option Elab.async false
set_option linter.all false
set_option maxRecDepth 100000
set_option maxHeartbeats 4000000
namespace DL
open PySem PySem.Spec PyProof.Rows L2
open PySem.SeqAt (EqAt)
/-! x in a tuple of texts, x any word of a built-in type -/
theorem str_no_dict (b : Str) (u : Tok) (l : Addr) (dd : Option Addr) (es : Array DictEntry) (n : Nat) (sl : Array (Option Value)) :
    Meets (Builtin.«str.__eq__» ⟨[.str b u, .ref l], []⟩) (fun _ R s => s.heap.get? l = some { cls := .type "dict", dict := dd, data := .dict es n, slots := sl } ∧ R (.ok (.ret .notImplemented)) s) := by
  apply Meets.of_wp
  rintro prog w A R ⟨hp, g, d, tk, os⟩ ⟨hl, h⟩
  wp_walk using wpAny_load hl
  exact ⟨_, rfl, h⟩
theorem dict_no_str (b : Str) (u : Tok) (l : Addr) (dd : Option Addr) (es : Array DictEntry) (n : Nat) (sl : Array (Option Value)) :
    Meets (Builtin.«dict.__eq__» ⟨[.ref l, .str b u], []⟩) (fun _ R s => s.heap.get? l = some { cls := .type "dict", dict := dd, data := .dict es n, slots := sl } ∧ R (.ok (.ret .notImplemented)) s) := by
  apply Meets.of_wp
  rintro prog w A R ⟨hp, g, d, tk, os⟩ ⟨hl, h⟩
  have f1 := PySem.F.sub_str_dict
  wp_walk using wpAny_load hl
  exact ⟨_, rfl, h⟩
section
variable {A : Around} {s : Shared}
theorem eq_str_dict {l : Addr} {o : Obj} {es : Array DictEntry} {n : Nat} (b : Str) (u : Tok) (ho : s.heap.get? l = some o) (hc : o.cls = .type "dict") (hd : o.data = .dict es n) (hu : A.units < cLine) : EqAt A s (.str b u) (.ref l) false := fun prog w E Q h => by
  obtain ⟨cls, dd, dt, sl⟩ := o
  simp only at hc hd
  subst hc
  subst hd
  unfold eqBool
  apply wpAny_holding
  refine wpAny_ite_split (fun hab => absurd (eq_of_beq hab) nofun) fun _ => wpAny_bind ?_
  refine PySem.SeqAt.rc_eq_decline_or (k := false) (typeIs_str s b u) ⟨_, ho, rfl⟩ (by decide) PySem.F.sub_dict_str PySem.F.slot_str_eq PySem.F.slot_dict_eq_refl ?_ ?_ ?_ (.inr hu) (wpAny_truthy_bool h)
  · exact fun _ hq => call_meets PySem.F.slot_str_eq (typeIs_str s b u) PySem.F.entry_str_eq (PySem.F.args_str_eq_2 _ _) (str_no_dict b u l dd es n sl) ⟨ho, hq⟩
  · exact fun _ hq => call_meets PySem.F.slot_dict_eq_refl ⟨_, ho, rfl⟩ PySem.F.entry_dict_eq (PySem.F.args_dict_eq_2 _ _) (dict_no_str b u l dd es n sl) ⟨ho, hq⟩
  · exact fun _ hq => wpAny_of_eq (rfl : isSame (.str b u) (.ref l) = pure false) hq
end
/-- the text is x -/
def isTx (x : D) (z : Str) : Bool := match x with
  | .str y => decide (z = y)
  | _ => false
def txOf (x : D) (v : Value) : Bool := match v with
  | .str z _ => isTx x z
  | _ => false
section
variable {T : Tb} {X : Cx} {W : WX} {G : GH} {H : Hp} {a b : Expr} {ta tb : TEd} {pos : Pos} {pins : List (Addr × Obj)} {σ : L2.St} {s : Shared}
theorem eq_text (hK : X.K = T.K) (I : Inv X pins σ H s) (rh : RH T G H) {x : D} {v : V} {u : Value} (rv : RV T G H x v) (r : RelV v u) {n : String} (h : tyD G x = some n) {A : Around} (hu : A.units < cLine) (z : Str) (t : Tok) : EqAt A s (.str z t) u (isTx x z) := by
  have dict : ∀ {p : Addr} {kvs : List (Key × V)}, H p = some (.dK kvs) → EqAt A s (.str z t) (.ref p) false := fun hx => by
    obtain ⟨_, _, vs, _, o, es, ep, ho, hc, hd, _⟩ := dk_of I.hok hx
    exact eq_str_dict z t ho hc.1 hd hu
  cases rv with
  | non => cases r; exact EqAt.str_none _ _
  | bl b => cases r; exact EqAt.str_bool _ _ _
  | int i => obtain ⟨k, rfl⟩ := r; exact EqAt.str_int _ _ _ _
  | str x =>
    obtain ⟨k, rfl⟩ := r
    exact (EqAt.str_str z t x k : EqAt A s _ _ (z == x))
  | tup hx l rr =>
    cases r
    obtain ⟨its, _, tp, _⟩ := I.tuple (by rw [hK]; exact hx.sq)
    exact EqAt.str_tuple _ _ tp hu
  | tupp g hx hd n l rr =>
    cases r
    obtain ⟨its, _, tp, _⟩ := I.tuple (by rw [hK]; exact (FzT.frz (K := T.K) g hx hd n).sq)
    exact EqAt.str_tuple _ _ tp hu
  | lst g hx l rr =>
    cases r
    obtain ⟨its, _, tp, _⟩ := I.list (SqL.of hx)
    exact EqAt.str_list _ _ tp.isList hu
  | frl hx l rr =>
    cases r
    obtain ⟨its, _, tp, _⟩ := I.list (by rw [hK]; exact hx.sq)
    exact EqAt.str_list _ _ tp.isList hu
  | dic g hx e l rr => cases r; exact dict hx
  | ref p =>
    cases r
    have h : tyO (G p) = some n := h
    cases e : G p with
    | none => rw [e] at h; cases h
    | some o =>
      rw [e] at h
      cases o with
      | lst ds =>
        obtain ⟨xs, hx, _⟩ := rh p _ e
        obtain ⟨its, _, tp, _⟩ := I.list (SqL.of hx)
        exact EqAt.str_list _ _ tp.isList hu
      | dic ks ds =>
        obtain ⟨xs, hx, _⟩ := rh p _ e
        exact dict hx
      | ins _ _ => cases h
      | exo _ => cases h
      | dct _ _ => cases h
  | _ => cases h
def inTxO : O2 := fun x y G Q => ∃ zs ys, y = .tup zs ∧ strsD zs = some ys ∧ (∃ n, tyD G x = some n) ∧ Q (.bl (ys.any (isTx x))) G
def rInTx (T : Tb) : R2 := fun x y H Q => ∃ (G : GH) (d : D) (p : Addr) (ys : List Str), RV T G H d x ∧ RH T G H ∧ (∃ n, tyD G d = some n) ∧ y = .ref p ∧ SqT T.K H p (ys.map V.str) ∧ Q (.bl (ys.any (isTx d))) H
theorem oi_inTx : OpI T (rInTx T) inTxO := by
  rintro G H x y v u Q Qv rh rx ry ⟨zs, ys, e, hs, ht, q⟩ k
  subst e
  cases ry with
  | tup hx l r =>
    have e := strs_rv r hs
    subst e
    exact ⟨G, x, _, ys, rx, rh, ht, rfl, hx.sq, k _ _ G H (.bl _) rh (Keep.refl _ _) q⟩
theorem any_tx (x : D) : ∀ {ys : List Str} {us : List Value}, Vals (ys.map V.str) us → us.any (txOf x) = ys.any (isTx x)
  | [], _, .nil => rfl
  | y :: ys, _, .cons r t => by
    obtain ⟨k, rfl⟩ := r
    rw [List.any_cons, List.any_cons, any_tx x t]
    rfl
theorem all_tx {P : Value → Prop} (h : ∀ z t, P (.str z t)) : ∀ {ys : List Str} {us : List Value}, Vals (ys.map V.str) us → ∀ w ∈ us, P w
  | [], _, .nil => fun _ m => nomatch m
  | y :: ys, _, .cons r t => fun w m => by
    obtain ⟨k, rfl⟩ := r
    rcases List.mem_cons.mp m with rfl | m
    · exact h _ _
    · exact all_tx h t w m
theorem op_inTx (hK : X.K = T.K) (hu : X.A.units + 80 < cLine) : OpR X (compareOp .In) (rInTx T) := by
  rintro pins s σ H x y v u Q I rx ry ⟨G, d, p, ys, rd, rh, ⟨n, ht⟩, rfl, hq, q⟩
  cases ry
  obtain ⟨its, r, pl, hz⟩ := I.tuple (by rw [hK]; exact hq)
  refine PySem.SeqAt.in_tupleAt (txOf d) pl (fun w hw => all_tx (P := fun w => EqAt X.A.in1 s w v (txOf d w)) (fun z t => eq_text hK I rh rd rx ht (by show X.A.units + 1 < cLine; omega) z t) r w (by simpa using hw)) ⟨.bl _, H, I, rfl, ?_⟩
  rw [show its.toArray.any (txOf d) = its.any (txOf d) by simp, any_tx d r]
  exact q
theorem q_inTx (hK : X.K = T.K) (hu : X.A.units + 80 < cLine) (ha : QE T X W a ta) (hb : QE T X W b tb) (hm : behindInMarks .In b = false := by first | exact nomark _ | rfl) : QE T X W (.Compare a [.In] [b] pos) (wOp inTxO ta tb) := q_cmp (op_inTx hK hu) oi_inTx ha hb hm
theorem qt_inTx (hK : X.K = T.K) (hu : X.A.units + 80 < cLine) (ha : QE T X W a ta) (hb : QE T X W b tb) (hm : behindInMarks .In b = false := by first | exact nomark _ | rfl) : QT T X W (.Compare a [.In] [b] pos) (wTest (wOp inTxO ta tb)) := qt_cmp (op_inTx hK hu) oi_inTx ha hb hm
end
end DL
set_option Elab.async false
set_option linter.all false
set_option maxRecDepth 100000
set_option maxHeartbeats 4000000
/-! enumerate over a tuple; a loop over a list or a tuple -/
namespace PySem
open AutoSeq1 (wpAny_loadPart')
abbrev tupIt (l : Addr) : Obj := { cls := .type "tuple_iterator", data := .fields #[.ref l, .int 0 0] }
abbrev enumOb (it : Addr) : Obj := { cls := .type "enumerate", data := .fields #[.none, .bool false, .ref it, rawInt 0, .none, .none] }
theorem new_enumT (l : Addr) (o : Obj) (items : Array Value) (hc : o.cls = .type "tuple") (hd : ∃ n, o.data = .seq items n) :
    Meets (Builtin.«enumerate.__new__» ⟨[.type "enumerate", .ref l], []⟩) (fun _ R s => s.heap.get? l = some o ∧
      R (.ok (.ret (.ref (s.heap.push (tupIt l)).objs.size))) { s with heap := (s.heap.push (tupIt l)).push (enumOb s.heap.objs.size) }) := by
  obtain ⟨n, hd⟩ := hd
  obtain ⟨cl, dct, dt, sl⟩ := o
  simp only at hc hd
  subst hc
  subst hd
  apply Meets.of_wp
  rintro prog w A R ⟨hp, g, d, tk, os⟩ ⟨hl, h⟩
  have e0 := sub_enumerate
  have tp : Heap.IsTuple (Shared.heap ⟨hp, g, d, tk, os⟩) l items := ⟨_, hl, rfl, n, rfl⟩
  wp_walk using wpAny_loadPart' hl
  refine wpAny_stack_any fun st => wpAny_pure ?_
  split
  · rename_i c _ _ _ _ _
    rcases (c == Value.type "enumerate") with _ | _
    all_goals
      wp_walk using wpAny_loadPart' hl, wpAny_pyIter_tuple tp
      exact ⟨_, rfl, h⟩
  · wp_walk using wpAny_loadPart' hl, wpAny_pyIter_tuple tp
    exact ⟨_, rfl, h⟩
theorem call_enumT {prog : Program} {w : World} {A : Around} {E : Value → Shared → Prop} {s : Shared} {l : Addr} {items : Array Value} {Q : Value → Shared → Prop} (tp : s.heap.IsTuple l items)
    (h : ∀ h', IsEnum h' (s.heap.objs.size + 1) s.heap.objs.size 0 .none → h'.IsTupleIter s.heap.objs.size l 0 → (∀ b o, s.heap.get? b = some o → h'.get? b = some o) → Q (.ref (s.heap.objs.size + 1)) { s with heap := h' }) :
    wpAny (model prog w) A (call (.type "enumerate") [.ref l]) Q E s := by
  obtain ⟨o, hl, hc, hd⟩ := tp
  refine callType_new F.called_enumerate (by decide) (F.typeCall_enumerate_1 _) (F.newCall_enumerate_1 _) (fun ob => F.args_object_init_2 ob _) F.entry_enumerate_new (new_enumT l o items hc hd) ⟨hl, ?_⟩
  have hz : (s.heap.push (tupIt l)).objs.size = s.heap.objs.size + 1 := Heap.size_push ..
  have he : IsEnum ((s.heap.push (tupIt l)).push (enumOb s.heap.objs.size)) (s.heap.objs.size + 1) s.heap.objs.size 0 .none := by
    have q := Heap.get?_push_size (s.heap.push (tupIt l)) (o := enumOb s.heap.objs.size) rfl
    rw [hz] at q
    exact q
  show _ ∧ _
  rw [hz]
  exact ⟨⟨_, he, rfl⟩, h _ he ⟨_, Heap.get?_push_of_some _ (Heap.get?_push_size _ rfl), rfl, rfl⟩ fun b o x => Heap.get?_push_of_some _ (Heap.get?_push_of_some _ x)⟩
end PySem
namespace PySem
/-- the enumerate has gone through the tuple -/
theorem enumT_end {prog : Program} {w : World} {A : Around} {E : Value → Shared → Prop} {s : Shared} {e it l : Addr} {i : Nat} {items : Array Value} {old : Value} {Q : Option Value → Shared → Prop} (hh : A.handled = none) (he : IsEnum s.heap e it i old) (hit : s.heap.IsTupleIter it l i) (tp : s.heap.IsTuple l items) (hx : items[i]? = none)
    (hQ : ∀ h', Heap.ExtBut it s.heap h' → Q none { s with heap := h' }) : wpAny (model prog w) A (pyNext (.ref e)) Q E s := by
  have ty : s.TypeIs (.ref e) "enumerate" := ⟨_, he, rfl⟩
  have nx : wpAny (model prog w) A.in1 (Builtin.«enumerate.__next__» ⟨[.ref e], []⟩) (fun _ _ => False) (fun v s' => ∃ x h', v = .ref x ∧ s' = { s with heap := h' } ∧ Heap.ExtBut it s.heap h' ∧ ∃ o, h'.get? x = some o ∧ o.cls = .type "StopIteration") s := by
    apply wpAny_bind (m := field (.ref e) 2)
    apply wpAny_field he rfl (x := .ref it) rfl
    apply wpAny_bind
    exact wpAny_nextOf_tuple_end (by simp [hh]) hit tp hx fun h' x a b => ⟨x, h', rfl, rfl, a, b⟩
  unfold pyNext
  apply wpAny_bind
  apply wpAny_attempt
  refine wpAny_callSpecial?_slot (name := Str.ofString "__next__") ty F.slot_enumerate_next (wpAny_call_entry F.slot_enumerate_next ty F.entry_enumerate_next ?_ (F.args_enumerate_next_1 _))
  refine wpAny_mono nx (fun _ _ z => z.elim) fun v s' ⟨x, h', ev, es, a, o, ho, hc⟩ => ?_
  subst ev
  subst es
  apply wpAny_bind
  exact wpAny_isInstance (T := "StopIteration") (b := true) ⟨o, ho, hc⟩ isSubtype_stop (wpAny_pure (hQ _ a))
end PySem
namespace DL
open PySem PySem.Spec PyProof.Rows L2
/-- the tuple at a, each item in a new pair -/
def Itq (K : PySem.W.Frag) (a : Addr) : It :=
  ⟨fun i H => ∃ (xs : List V) (x : V), SqT K H a xs ∧ xs[i]? = some x, fun i H v H' => ∃ T x, v = .ref T ∧ H T = none ∧ H' = upd H T (.tup [.int (i : Nat), x]) ∧ ∀ xs, SqT K H a xs → xs[i]? = some x, fun i H => ∃ xs : List V, SqT K H a xs ∧ xs.length ≤ i⟩
theorem turn_enumT {P : Program} {w : World} {K : PySem.W.Frag} {elts : List Expr} {kk : Nat} {tpos : Pos} (a e it : Addr) :
    Turn P w K (.Tuple elts kk tpos) (Itq K a) [e, it] e (fun i h => (∃ old, IsEnum h e it ((i : Nat) : Int) old) ∧ h.IsTupleIter it a i ∧ e ≠ it ∧ a ≠ it ∧ a ≠ e) := by
  have two : ∀ b ∈ [e, it], b = e ∨ b = it := fun b hb => by simpa using hb
  constructor
  · simp
  · rintro i h ⟨⟨old, he⟩, ⟨o, ho, hc, hd⟩, _⟩ b hb
    rcases two b hb with rfl | rfl
    · exact ⟨_, he, fun v q => nomatch q⟩
    · exact ⟨o, ho, fun v q => by rw [hd] at q; cases q⟩
  · rintro i h h' ⟨⟨old, he⟩, hi, hne⟩ k
    exact ⟨⟨old, k e (by simp) _ he⟩, hi.at fun o q => k it (by simp) o q, hne⟩
  · rintro X rfl rfl rfl hc i pins s σ H E I hf ⟨⟨old, he⟩, hit, hne, nai, nae⟩ ⟨xs, x, hq, hx⟩
    obtain ⟨its, rv, p, hz⟩ := I.tuple hq
    obtain ⟨u, hu, ru⟩ := rv.get hx
    have p : s.heap.IsTuple a its.toArray := p
    have hel : e < s.heap.objs.size := Heap.lt_size he
    have hil : it < s.heap.objs.size := by obtain ⟨_, q, _⟩ := hit; exact Heap.lt_size q
    have lt : i < its.toArray.size := by
      have := (List.getElem?_eq_some_iff.mp hu).1
      simpa using this
    refine wpAny_pyNext_enum_itemD (Draws.tuple (prog := X.prog) (w := X.w) (A := X.A.in1) (by have := I.ok.hd hc; simp [this]) it a nai its.toArray) he ⟨hit, p⟩ lt hne (by simp; exact ⟨hne, fun z => nae z.symm⟩) fun x1 h' tk hx1 ho st hT hsz hk => ?_
    obtain rfl : x1 = u := by
      have e1 : its[i]? = some x1 := by simpa using hx1
      rw [hu] at e1
      exact (Option.some.inj e1).symm
    refine ⟨_, rfl, wpAny_letOwnedTupleGo_enum (s := { s with heap := h', toks := tk + 1 }) ho fun h'' he' sb => ?_⟩
    have hT2 : h''.get? s.heap.objs.size = some { cls := .type "tuple", data := .seq #[.int i tk, x1] } := (sb.2 _ (Nat.ne_of_gt hel)).trans hT
    have fresh : ObjOk X.prog X.w (upd H s.heap.objs.size (.tup [.int (i : Nat), x])) h'' s.heap.objs.size (.tup [.int (i : Nat), x]) := by
      refine ⟨by show 2 ≤ sizeLine; decide, [.int i tk, x1], ?_, ⟨_, hT2, rfl, _, rfl⟩⟩
      exact .cons ⟨_, rfl⟩ (.cons ru .nil)
    have I1 : Inv X pins σ (upd H s.heap.objs.size (.tup [.int (i : Nat), x])) { s with heap := h'', toks := tk + 1 } := by
      refine I.turnedNew (ch := [e, it]) (fun b ob hb q => ?_) hf (Nat.le_refl _) fresh
      have nb : b ≠ e ∧ b ≠ it := ⟨fun z => hb (by simp [z]), fun z => hb (by simp [z])⟩
      exact (sb.2 b nb.1).trans (hk b ob nb.1 nb.2 q)
    refine ⟨.ref s.heap.objs.size, _, I1, rfl, ⟨_, x, rfl, I.hok.fresh (Nat.le_refl _), rfl, fun ys hy => by rw [I.tuple_inj hy hq]; exact hx⟩, ⟨⟨x1, ?_⟩, st.1.at fun o q => (sb.2 it (Ne.symm hne)).trans q, hne, nai, nae⟩, fun b hb => ?_⟩
    · have e1 : ((i + 1 : Nat) : Int) = (i : Int) + 1 := by omega
      rw [e1]
      exact he'
    · have lb : b < s.heap.objs.size := by rcases two b hb with rfl | rfl <;> assumption
      rw [upd_ne (Nat.ne_of_lt lb)]
      exact (hf b hb).1
  · rintro X rfl rfl rfl hc i pins s σ H E I hf ⟨⟨old, he⟩, hit, hne, nai, nae⟩ ⟨xs, hq, hx⟩
    obtain ⟨its, rv, p, hz⟩ := I.tuple hq
    have p : s.heap.IsTuple a its.toArray := p
    obtain ⟨f0, f1, f2, f3, f4, f5⟩ := hf it (by simp)
    have hl := rv.length
    exact enumT_end (I.ok.hd hc) he hit p (by simp; omega) fun h' eb => ⟨rfl, I.turned (t' := s.toks) (fun b o hb q => eb b o hb q) f0 f1 f3 f4 f5⟩
  · rintro A i s Q E ⟨⟨_, he⟩, _⟩ h
    exact wpAny_pyIter_enum he h
end DL
set_option Elab.async false
set_option linter.all false
set_option maxRecDepth 100000
set_option maxHeartbeats 4000000
namespace DL
open PySem PySem.Spec PyProof.Rows L2
section
variable {T : Tb} {X : Cx} {W : WX} {e : Expr} {te : TEd} {u : TAd} {tl : TE} {ta : TA} {tg : Expr} {p pos tpos : Pos} {elts : List Expr} {kk : Nat}
/-- over a list or a tuple -/
def iSeq (K : PySem.W.Frag) (tl : TE) : TI := fun σ H R => tl σ H fun x H1 => ∃ a, x = .ref a ∧ ((∃ xs, SqL K H1 a xs ∧ R (Itl K a) H1) ∨ ∃ xs, SqT K H1 a xs ∧ R (Itt K a) H1)
theorem one_in {b n : Addr} (h : b ∈ [n]) : b = n := List.mem_singleton.mp h
theorem pi_seq (hl : PE X e tl) : PI X tg e (iSeq X.K tl) := by
  constructor
  intro pins s σ H R I h
  apply thn (hl.run pins s σ H _ I h)
  rintro v s1 ⟨x, H1, I1, r1, a, rfl, q⟩
  cases r1
  have new : ∀ b ∈ [s1.heap.objs.size], FpOk X pins H1 b := fun b hb => by
    rw [one_in hb]
    exact I1.fpOk (Nat.le_refl _) (I1.hok.fresh (Nat.le_refl _))
  have keep : ∀ o : Obj, Inv X pins σ H1 { s1 with heap := s1.heap.push o } := fun o => I1.kept (t' := s1.toks) fun b ob z => Heap.get?_push_of_some _ z
  rcases q with ⟨xs, hq, q⟩ | ⟨xs, hq, q⟩
  · obtain ⟨its, rv, pl, _⟩ := I1.list hq
    apply wpAny_pyIter_list pl.isList
    exact ⟨_, [s1.heap.objs.size], _, _, H1, rfl, keep _, turn_list a _, ⟨_, Heap.get?_push_size _ rfl, rfl, rfl⟩, new, q⟩
  · obtain ⟨its, rv, pl, _⟩ := I1.tuple hq
    apply wpAny_pyIter_tuple (show s1.heap.IsTuple a its.toArray from pl)
    exact ⟨_, [s1.heap.objs.size], _, _, H1, rfl, keep _, turn_tuple a _, ⟨_, Heap.get?_push_size _ rfl, rfl, rfl⟩, new, q⟩
/-- enumerate over a list or a tuple -/
def iEnumS (K : PySem.W.Frag) (ta : TA) : TI := fun σ H R => ta σ H fun vs H1 => ∃ a, vs = [.ref a] ∧ ((∃ xs, SqL K H1 a xs ∧ R (Ite K a) H1) ∨ ∃ xs, SqT K H1 a xs ∧ R (Itq K a) H1)
theorem pi_enumS (hg : Gl X "enumerate") (hm : X.mg "enumerate" = none) (ha : PA X [e] ta) (hs : starEach [e] X.env = [(false, eval e X.env)] := by rfl) :
    PI X (.Tuple elts kk tpos) (.Call (.Name "enumerate" p) [e] [] pos) (iEnumS X.K ta) := by
  constructor
  intro pins s σ H R I h
  refine Call_ (ld_blt I hg hm boot_enumerate (PyProof.Rows.callWith_type1 (thn (ha.run pos pins s σ H _ I h) ?_) hs rfl))
  rintro us s1 ⟨vs, H1, I1, r1, a, rfl, q⟩
  rcases r1 with _ | ⟨r, _ | ⟨_, _⟩⟩
  cases r
  have new : ∀ b ∈ [s1.heap.objs.size + 1, s1.heap.objs.size], FpOk X pins H1 b := fun b hb => by
    have hle : s1.heap.objs.size ≤ b := by
      rcases List.mem_cons.mp hb with z | z
      · rw [z]; exact Nat.le_add_right _ _
      · rw [one_in z]; exact Nat.le_refl _
    exact I1.fpOk hle (I1.hok.fresh hle)
  rcases q with ⟨xs, hq, q⟩ | ⟨xs, hq, q⟩
  · obtain ⟨its, rv, pl, _⟩ := I1.list hq
    apply call_enumerate_list pl.isList
    intro h' he hit hsz hk
    have I2 : Inv X pins σ H1 { s1 with heap := h' } := I1.kept (t' := s1.toks) hk
    exact wpAny_pyIter_enum he ⟨_, [s1.heap.objs.size + 1, s1.heap.objs.size], _, _, H1, rfl, I2, turn_enum a _ s1.heap.objs.size, ⟨⟨.none, he⟩, hit, Nat.succ_ne_self _⟩, new, q⟩
  · obtain ⟨its, rv, pl, _⟩ := I1.tuple hq
    have pl : s1.heap.IsTuple a its.toArray := pl
    have la : a < s1.heap.objs.size := let ⟨_, z, _⟩ := pl; Heap.lt_size z
    apply call_enumT pl
    intro h' he hit hk
    have I2 : Inv X pins σ H1 { s1 with heap := h' } := I1.kept (t' := s1.toks) hk
    exact wpAny_pyIter_enum he ⟨_, [s1.heap.objs.size + 1, s1.heap.objs.size], _, _, H1, rfl, I2, turn_enumT a _ s1.heap.objs.size, ⟨⟨.none, he⟩, hit, Nat.succ_ne_self _, Nat.ne_of_lt la, Nat.ne_of_lt (Nat.lt_succ_of_lt la)⟩, new, q⟩
/-- what is gone over -/
def itS (d : D) (G1 : GH) (Q : List D → (GH → Prop) → GH → Prop) : Prop := match d with
  | .tup ds => Q ds always G1
  | d => itO d G1 Q
def wiSeq (te : TEd) : TId := fun env G Q Ex => te env G (fun d G1 => itS d G1 Q) Ex
theorem qi_seq (he : QE T X W e te) (hK : X.K = T.K) : QI T X W tg e (wiSeq te) :=
  ⟨PI.imp (pi_seq he.pe) fun σ H R ⟨env, G, Q, Ex, rs, rh, ex, q, k⟩ => intoE rs rh ex q fun d v G1 H1 rd rh1 k1 q1 => by
    rw [hK]
    cases rd with
    | tup hx l r => exact ⟨_, rfl, .inr ⟨_, hx.sq, k _ _ always _ _ rh1 k1 (src_tup (xs := []) l fun G H kk _ _ => ⟨_, (kk.fzT hx).sq, r.keep kk⟩) q1⟩⟩
    | lst g hx l r => exact ⟨_, rfl, .inl ⟨_, SqL.of hx, k _ _ always _ _ rh1 k1 (src_list (xs := []) l fun G H kk _ _ => ⟨_, SqL.of (kk _ _ g hx).1, r.keep kk⟩) q1⟩⟩
    | frl hx l r => exact ⟨_, rfl, .inl ⟨_, hx.sq, k _ _ always _ _ rh1 k1 (src_list (xs := []) l fun G H kk _ _ => ⟨_, (kk.fzL hx).sq, r.keep kk⟩) q1⟩⟩
    | ref a =>
      obtain ⟨ds, g, q2⟩ := q1
      obtain ⟨xs, hx, l, r⟩ := rh1 a _ g
      exact ⟨_, rfl, .inl ⟨_, SqL.of hx, k _ _ (fun G => G a = some (.lst ds)) _ _ rh1 k1 (src_list (xs := []) l fun G H kk rh2 g2 => let ⟨ys, hy, _, ry⟩ := rh2 a _ g2; ⟨ys, SqL.of hy, ry⟩) q2⟩⟩
    | _ => exact q1.elim⟩
theorem src_enumT {G0 : GH} {H0 : Hp} {a : Addr} {ds : List D} {stay : GH → Prop} (hl : ds.length ≤ sizeLine)
    (h : ∀ G H, Keep G0 H0 G H → RH T G H → stay G → ∃ xs, SqT T.K H a xs ∧ RVs T G H ds xs) : SrcOk T G0 H0 (Itq T.K a) (enumD ds) stay where
  len := by rw [enum_len]; exact hl
  go := fun G H k rh st i hi => by
    obtain ⟨xs, h1, r⟩ := h G H k rh st
    rw [enum_len] at hi
    obtain ⟨v, hv, _⟩ := r.get (i := i) (d := ds[i]) (List.getElem?_eq_getElem hi)
    exact ⟨xs, v, h1, hv⟩
  yld := fun G H k rh st i d x H' hd hy => by
    obtain ⟨xs, h1, r⟩ := h G H k rh st
    obtain ⟨y, hy0, ed⟩ := enum_get hd
    obtain ⟨v, hv, rv⟩ := r.get hy0
    obtain ⟨t, z, ex, nt, eH, hz⟩ := hy
    subst ed ex eH
    obtain rfl : v = z := by
      have q := hz xs h1
      rw [hv] at q
      exact Option.some.inj q
    exact ⟨.tup (xs := [.int (i : Nat), v]) ⟨rh.fresh nt, .inl upd_same⟩ (by show 2 ≤ sizeLine; decide) (.cons (.int _) (.cons (rv.keep (Keep.new nt)) .nil)), rh.new nt, Keep.new nt⟩
  stop := fun G H k rh st i hi => by
    obtain ⟨xs, h1, r⟩ := h G H k rh st
    rw [enum_len] at hi
    exact ⟨xs, h1, by rw [← r.length]; exact hi⟩
def wiEnumS (ta : TAd) : TId := fun env G Q Ex => ta env G (fun ds G1 => ∃ x, ds = [x] ∧ itS x G1 fun xs stay G2 => Q (enumD xs) stay G2) Ex
theorem qi_enumS (hK : X.K = T.K) (hm : X.mg "enumerate" = none) (ha : QA T X W [e] u) (hg : Gl X "enumerate" := by rfl) (hs : starEach [e] X.env = [(false, eval e X.env)] := by rfl) : QI T X W (.Tuple elts kk tpos) (.Call (.Name "enumerate" p) [e] [] pos) (wiEnumS u) :=
  ⟨PI.imp (pi_enumS hg hm ha.pa hs) fun σ H R ⟨env, G, Q, Ex, rs, rh, ex, q, k⟩ => intoA rs rh ex q fun ds vs G1 H1 rds rh1 k1 ⟨x, ed, q1⟩ => by
    subst ed
    rw [hK]
    rcases rds with _ | ⟨rx, _ | ⟨_, _⟩⟩
    cases rx with
    | tup hx l r => exact ⟨_, rfl, .inr ⟨_, hx.sq, k _ _ always _ _ rh1 k1 (src_enumT l fun G H kk _ _ => ⟨_, (kk.fzT hx).sq, r.keep kk⟩) q1⟩⟩
    | lst g hx l r => exact ⟨_, rfl, .inl ⟨_, SqL.of hx, k _ _ always _ _ rh1 k1 (src_enum rfl l fun G H kk _ _ => ⟨_, SqL.of (kk _ _ g hx).1, r.keep kk⟩) q1⟩⟩
    | frl hx l r => exact ⟨_, rfl, .inl ⟨_, hx.sq, k _ _ always _ _ rh1 k1 (src_enum rfl l fun G H kk _ _ => ⟨_, (kk.fzL hx).sq, r.keep kk⟩) q1⟩⟩
    | ref a =>
      obtain ⟨ds, g, q1⟩ := q1
      obtain ⟨xs, hx, l, r⟩ := rh1 a _ g
      exact ⟨_, rfl, .inl ⟨_, SqL.of hx, k _ _ (fun G => G a = some (.lst ds)) _ _ rh1 k1 (src_enum rfl l fun G H kk rhh st => let ⟨ys, hy, _, r'⟩ := rhh a _ st; ⟨ys, SqL.of hy, r'⟩) q1⟩⟩
    | _ => exact False.elim q1⟩
theorem itS_t {ds : List D} {G : GH} {Q : List D → (GH → Prop) → GH → Prop} : itS (.tup ds) G Q = Q ds always G := rfl
theorem itS_l {ds : List D} {G : GH} {Q : List D → (GH → Prop) → GH → Prop} : itS (.lst ds) G Q = Q ds always G := rfl
theorem itS_r {a : Addr} {G : GH} {Q : List D → (GH → Prop) → GH → Prop} : itS (.ref a) G Q = ∃ ds, G a = some (.lst ds) ∧ Q ds (fun G => G a = some (.lst ds)) G := rfl
end
end DL
set_option Elab.async false
set_option linter.all false
set_option maxRecDepth 100000
set_option maxHeartbeats 4000000
/-! x[::-1], x a list or a tuple -/
namespace HT
open PySem PySem.Spec PyProof.Rows
section
variable {prog : Program} {w : World} {A : Around} {E : Value → Shared → Prop} {s : Shared}
theorem back_bounds (n : Nat) : Builtin.Slice.sliceAdjust none none (-1) (n : Int) = ((n : Int) - 1, -1) := rfl
theorem back_places (n : Nat) : Builtin.Slice.slicePlaces ((n : Int) - 1) (-1) (-1) = n := by
  unfold Builtin.Slice.slicePlaces
  rw [if_neg (by decide)]
  split
  · have e : (-(-1 : Int)) = 1 := rfl
    rw [e, Int.ediv_one]
    omega
  · show (0 : Int).toNat = n
    omega
theorem same_fm {α β : Type} {f g : α → Option β} : ∀ {l : List α}, (∀ x ∈ l, f x = g x) → l.filterMap f = l.filterMap g
  | [], _ => rfl
  | x :: l, h => by rw [List.filterMap_cons, List.filterMap_cons, h x List.mem_cons_self, same_fm fun y hy => h y (List.mem_cons_of_mem _ hy)]
theorem back_pick (xs : Array Value) : ((List.range xs.size).filterMap fun (k : Nat) => xs[(((xs.size : Int) - 1) + (k : Int) * (-1)).toNat]?).toArray = xs.toList.reverse.toArray := by
  have e : ∀ k ∈ List.range xs.size, (xs[(((xs.size : Int) - 1) + (k : Int) * (-1)).toNat]? : Option Value) = ((fun j => xs[j]?) ∘ fun k => xs.size - 1 - k) k := fun k hk => by
    have := List.mem_range.mp hk
    have q : (((xs.size : Int) - 1) + (k : Int) * (-1)).toNat = xs.size - 1 - k := by omega
    show xs[(((xs.size : Int) - 1) + (k : Int) * (-1)).toNat]? = xs[xs.size - 1 - k]?
    rw [q]
  rw [same_fm e, ← List.filterMap_map, PySem.W.krv_range, List.filterMap_reverse, PySem.W.krv_all]
theorem tuple_back {t sl : Addr} {items : Array Value} {vs : Value} {Q : Value → Shared → Prop} (ht : IsTup s.heap t items) (hs : s.heap.IsSliceOf sl .none .none vs) (ps : IsPart vs (some (-1))) (hsz : items.size ≤ sizeLine)
    (h : Q (.ref s.heap.objs.size) { s with heap := s.heap.push { cls := .type "tuple", data := .seq items.toList.reverse.toArray } }) : wpAny (model prog w) A (getItem (.ref t) (.ref sl)) Q E s := by
  have fit : sizeOk (.seq items.toList.reverse.toArray) := by
    show items.toList.reverse.toArray.size ≤ sizeLine
    rw [List.size_toArray, List.length_reverse, Array.length_toList]
    exact hsz
  obtain ⟨os, hos, hcs, hds⟩ := id hs
  have ty : s.TypeIs (.ref sl) "slice" := ⟨os, hos, hcs⟩
  unfold getItem
  apply wpAny_holding
  apply wpAny_bind
  refine wpAny_sequenceKey ht.typeIs (by decide) (wpAny_bind ?_)
  refine wpAny_callSpecial?_slot (name := Str.ofString "__getitem__") ht.typeIs PyProof.Rows.slot_tuple_getitem (wpAny_call_entry PyProof.Rows.slot_tuple_getitem ht.typeIs entry_tuple_getitem ?_ (args_tuple_getitem _ _))
  apply wpAny_bind (m := Builtin.Tuple.tupleItemsOf (.ref t))
  refine tupleItemsOf_ ht (wpAny_bind (wpAny_typeOf ty ?_))
  rw [if_pos (by decide)]
  apply wpAny_bind
  have parts : wpAny (model prog w) A.in1 (Builtin.Slice.sliceApplied (.ref sl) (pure (items.size : Int))) (fun r s' => r = ((items.size : Int) - 1, -1, items.size) ∧ s' = s) (fun _ _ => False) s := by
    unfold Builtin.Slice.sliceApplied Builtin.Slice.sliceFields
    refine wpAny_bind (wpAny_bind (wpAny_field hos hds (x := .none) rfl (wpAny_bind (wpAny_field hos hds (x := .none) rfl (wpAny_bind (wpAny_field hos hds (x := vs) rfl (wpAny_pure ?_)))))))
    refine wpAny_bind (slicePart_ ps ?_)
    show wpAny _ _ (if ((-1 : Int) == 0) = true then _ else _) _ _ s
    rw [if_neg (by decide)]
    refine wpAny_bind (slicePart_ .none (wpAny_bind (slicePart_ .none (wpAny_bind (wpAny_pure ?_)))))
    refine wpAny_pure ⟨?_, rfl⟩
    show ((items.size : Int) - 1, (-1 : Int), Builtin.Slice.slicePlaces ((items.size : Int) - 1) (-1) (-1)) = _
    rw [back_places]
  refine wpAny_mono parts (fun r s' ⟨e1, e2⟩ => ?_) fun _ _ z => z.elim
  subst e1 e2
  have no : ¬ (((items.size : Int) - 1 == 0 && (-1 : Int) == 1 && items.size == items.size) = true) := by
    rw [show ((-1 : Int) == 1) = false from rfl, Bool.and_false, Bool.false_and]
    exact Bool.false_ne_true
  show wpAny _ _ (if ((items.size : Int) - 1 == 0 && (-1 : Int) == 1 && items.size == items.size) = true then _ else _) _ _ s'
  rw [if_neg no, back_pick]
  first
    | exact wpAny_bind (m := Builtin.Tuple.tupleExact _) (wpAny_newObj_type (wpAny_pure ⟨_, rfl, wpAny_pure h⟩) fit)
    | exact wpAny_bind (wpAny_bind (m := Builtin.Tuple.tupleExact _) (wpAny_newObj_type (wpAny_pure (wpAny_pure ⟨_, rfl, wpAny_pure h⟩)) fit))
end
end HT
namespace DL
open PySem PySem.Spec PyProof.Rows L2
section
variable {T : Tb} {X : Cx} {W : WX} {e : Expr} {te : TEd} {tl : TE} {k : Nat} {p1 p2 p3 pos : Pos}
def tRevS (K : PySem.W.Frag) (te : TE) : TE := fun σ H Q => te σ H fun x H1 => ∃ a xs, x = .ref a ∧ ((SqL K H1 a xs ∧ ∀ p, H1 p = none → Q (.ref p) (upd H1 p (.lst xs.reverse))) ∨ (SqT K H1 a xs ∧ ∀ p, H1 p = none → Q (.ref p) (upd H1 p (.tup xs.reverse))))
theorem pe_revS (he : PE X e tl) : PE X (.Subscript e (.Slice none none (some (.UnaryOp .USub (.Constant (.int 1) k p1) p2)) p3) pos) (tRevS X.K tl) := by
  constructor
  intro pins s σ H Q I h
  refine Subscript_ (thn (he.run pins s σ H _ I h) ?_)
  rintro v s1 ⟨x, H1, I1, r1, a, xs, rfl, q⟩
  cases r1
  have minus : PO X (some (.UnaryOp .USub (.Constant (.int 1) k p1) p2)) (tPart (tUn (rU fun i => .int (-i)) (tC (.int 1)))) := po_some (pe_un un_neg pe_int)
  refine wpAny_Slice (thn (po_none.run pins s1 σ H1 (fun o H2 => o = none ∧ H2 = H1) I1 ⟨rfl, rfl⟩) ?_)
  rintro vl s2 ⟨l, H2, I2, pl, rfl, rfl⟩
  refine thn (po_none.run pins s2 σ H2 (fun o H3 => o = none ∧ H3 = H2) I2 ⟨rfl, rfl⟩) ?_
  rintro vu s3 ⟨u, H3, I3, pu, rfl, rfl⟩
  refine thn (minus.run pins s3 σ H3 (fun o H4 => o = some (-1) ∧ H4 = H3) I3 ⟨1, rfl, -1, rfl, rfl, rfl⟩) ?_
  rintro vs s4 ⟨o, H4, I4, ps, rfl, rfl⟩
  have I5 : Inv X pins σ H4 { s4 with heap := s4.heap.push { cls := .type "slice", data := .fields #[vl, vu, vs] } } := I4.kept (t' := s4.toks) fun b ob z => Heap.get?_push_of_some _ z
  have so := Heap.IsSliceOf.new s4.heap vl vu vs
  show wpAny (model X.prog X.w) X.A (subscriptTail e (.Slice none none (some (.UnaryOp .USub (.Constant (.int 1) k p1) p2)) p3) (.ref a) (.ref s4.heap.objs.size)) _ X.xe { s4 with heap := s4.heap.push { cls := .type "slice", data := .fields #[vl, vu, vs] } }
  rcases q with ⟨hx, q⟩ | ⟨hx, q⟩
  · obtain ⟨its, r, ht, hz⟩ := I5.list hx
    have hlen := r.length
    refine tail_any (ops := [.ref a, .ref s4.heap.objs.size]) ht.isList.typeIs (PySem.slot_list_getitem.lookup) ?_ (by with_unfolding_all rfl)
    refine wpAny_getItem_list_slice ht.isList so pl pu ps (by decide) ?_ (by rw [List.size_toArray]; omega)
    rw [PySem.W.krv_pick]
    exact ⟨.ref _, _, I5.laid (t' := s4.toks) (o := .lst xs.reverse) (fun b ob z => Heap.get?_push_of_some _ z) (Nat.le_refl _) ⟨by rw [List.length_reverse]; exact hz, _, 0, r.reverse, Heap.get?_push_size _ rfl⟩, rfl, q _ (I5.hok.fresh (Nat.le_refl _))⟩
  · obtain ⟨its, r, ht, hz⟩ := I5.tuple hx
    have hlen := r.length
    cases pl
    cases pu
    refine tail_any (ops := [.ref a, .ref s4.heap.objs.size]) ht.typeIs PyProof.Rows.slot_tuple_getitem.lookup ?_ (by with_unfolding_all rfl)
    refine HT.tuple_back ht so ps (by rw [List.size_toArray]; omega) ?_
    exact ⟨.ref _, _, I5.laid (t' := s4.toks) (o := .tup xs.reverse) (fun b ob z => Heap.get?_push_of_some _ z) (Nat.le_refl _) ⟨by rw [List.length_reverse]; exact hz, _, r.reverse, IsTup.new _ _⟩, rfl, q _ (I5.hok.fresh (Nat.le_refl _))⟩
def revO (d : D) (G : GH) (Q : DK) : Prop := match d with
  | .tup ds => Q (.tup ds.reverse) G
  | .lst ds => Q (.lst ds.reverse) G
  | .ref a => ∃ ds, G a = some (.lst ds) ∧ Q (.lst ds.reverse) G
  | _ => False
def wRev (te : TEd) : TEd := fun env G Q Ex => te env G (fun d G1 => revO d G1 Q) Ex
theorem q_rev (hK : X.K = T.K) (he : QE T X W e te) : QE T X W (.Subscript e (.Slice none none (some (.UnaryOp .USub (.Constant (.int 1) k p1) p2)) p3) pos) (wRev te) :=
  QE.of (pe_revS he.pe) fun env G σ H Q Ex Qv rs rh ex q kk => intoE rs rh ex q fun d v G1 H1 rv rh1 k1 q1 => by
    rw [hK]
    cases rv with
    | tup hx l r => exact ⟨_, _, rfl, .inr ⟨hx.sq, fun p np => kk _ _ _ _ (.tup ⟨rh1.fresh np, .inl upd_same⟩ (by rw [List.length_reverse]; exact l) (r.rev.keep (Keep.new np))) (rh1.new np) (k1.trans (Keep.new np)) q1⟩⟩
    | lst g hx l r => exact ⟨_, _, rfl, .inl ⟨SqL.of hx, fun p np => kk _ _ _ _ (.lst (rh1.fresh np) upd_same (by rw [List.length_reverse]; exact l) (r.rev.keep (Keep.new np))) (rh1.new np) (k1.trans (Keep.new np)) q1⟩⟩
    | ref a =>
      obtain ⟨ds, g, q1⟩ := q1
      obtain ⟨xs, hx, l, r⟩ := rh1 a _ g
      exact ⟨_, _, rfl, .inl ⟨SqL.of hx, fun p np => kk _ _ _ _ (.lst (rh1.fresh np) upd_same (by rw [List.length_reverse]; exact l) (r.rev.keep (Keep.new np))) (rh1.new np) (k1.trans (Keep.new np)) q1⟩⟩
    | _ => exact q1.elim
theorem revO_t {ds : List D} {G : GH} {Q : DK} : revO (.tup ds) G Q = Q (.tup ds.reverse) G := rfl
theorem revO_l {ds : List D} {G : GH} {Q : DK} : revO (.lst ds) G Q = Q (.lst ds.reverse) G := rfl
/-- the list at a variable, or one that is fixed, is held to be fixed from now on -/
def frzL (x : D) (G : GH) (Q : DK) : Prop := match x with
  | .lst ds => Q (.lst ds) G
  | x => frzO x G Q
def wFrzL (te : TEd) : TEd := fun env G Q Ex => te env G (fun x G1 => frzL x G1 Q) Ex
theorem q_frzL (h : QE T X W e te) : QE T X W e (wFrzL te) :=
  ⟨PE.imp h.pe fun σ H Qv ⟨env, G, Q, Ex, rs, rh, ex, q, kq⟩ => ⟨env, G, fun x G1 => frzL x G1 Q, Ex, rs, rh, ex, q, fun v H' ⟨d, G', rd, rh', k', q'⟩ => by
    cases rd with
    | ref a =>
      obtain ⟨ds, g, q'⟩ := q'
      obtain ⟨xs, hx, l, r⟩ := rh' a _ g
      exact kq _ _ ⟨.lst ds, gdel G' a, .lst gdel_same hx l (r.keep Keep.freeze), rh'.freeze a, k'.trans Keep.freeze, q'⟩
    | lst g hx l r => exact kq _ _ ⟨.lst _, G', .lst g hx l r, rh', k', q'⟩
    | _ => exact False.elim q'⟩⟩
theorem frzL_l {ds : List D} {G : GH} {Q : DK} : frzL (.lst ds) G Q = Q (.lst ds) G := rfl
theorem frzL_r {a : Addr} {G : GH} {Q : DK} : frzL (.ref a) G Q = ∃ ds, G a = some (.lst ds) ∧ Q (.lst ds) (gdel G a) := rfl
theorem frzO_r {a : Addr} {G : GH} {Q : DK} : frzO (.ref a) G Q = ∃ ds, G a = some (.lst ds) ∧ Q (.lst ds) (gdel G a) := rfl
/-! x in y by an own __contains__ -/
variable {a b : Expr} {ta tb : TEd}
theorem q_inOwn {c k : Nat} {sp : DSp} (hK : X.K = T.K) (C : CalM T X.prog X.w X.mg X.base c "__contains__" k sp) (hr : RoomG k X.A) (ha : QE T X W a ta) (hb : QE T X W b tb) (hm : behindInMarks .In b = false := by first | exact nomark _ | rfl) :
    QE T X W (.Compare a [.In] [b] pos) (wOp (inOwnO false c sp) ta tb) := q_cmp (op_inOwn hK C hr) oi_inOwn ha hb hm
theorem qt_inOwn {c k : Nat} {sp : DSp} (hK : X.K = T.K) (C : CalM T X.prog X.w X.mg X.base c "__contains__" k sp) (hr : RoomG k X.A) (ha : QE T X W a ta) (hb : QE T X W b tb) (hm : behindInMarks .In b = false := by first | exact nomark _ | rfl) :
    QT T X W (.Compare a [.In] [b] pos) (wTest (wOp (inOwnO false c sp) ta tb)) := qt_cmp (op_inOwn hK C hr) oi_inOwn ha hb hm
/-! a <= b <= c, a <= b < c -/
theorem q_leLe {c : Expr} {tc : TEd} (ha : QE T X W a ta) (hb : QE T X W b tb) (hc : QE T X W c tc) (hm : lastMarks [.LtE, .LtE] [b, c] = false := by with_unfolding_all rfl) : QE T X W (.Compare a [.LtE, .LtE] [b, c] pos) (wChain leO leO ta tb tc) :=
  q_chain op_le op_le (oi_int0 fun _ _ _ _ => .bl _) (oi_int0 fun _ _ _ _ => .bl _) ha hb hc (pe_chain op_le op_le ha.pe hb.pe hc.pe hm)
theorem q_leLt {c : Expr} {tc : TEd} (ha : QE T X W a ta) (hb : QE T X W b tb) (hc : QE T X W c tc) (hm : lastMarks [.LtE, .Lt] [b, c] = false := by with_unfolding_all rfl) : QE T X W (.Compare a [.LtE, .Lt] [b, c] pos) (wChain leO ltO ta tb tc) :=
  q_chain op_le op_lt (oi_int0 fun _ _ _ _ => .bl _) (oi_int0 fun _ _ _ _ => .bl _) ha hb hc (pe_chain op_le op_lt ha.pe hb.pe hc.pe hm)
theorem nosl_name {x : Str} {p : Pos} : NoSl (.Name x p) := fun _ _ => rfl
theorem nosl_const {c : Const} {k : Nat} {p : Pos} : NoSl (.Constant c k p) := fun _ _ => rfl
/-! {} -/
theorem q_dnew : QE T X W (.Dict [] [] pos) (wC (.dic [] [])) :=
  QE.of pe_dnewK fun env G σ H Q Ex Qv rs rh ex q k => fun p np => k _ _ _ _ (.dic (kvs := []) (xs := []) (rh.fresh np) upd_same rfl rfl .nil) (rh.new np) (Keep.new np) q
def wDNewM : TEd := fun _ G Q _ => ∀ p, G p = none → Q (.ref p) (gset G p (.dic [] []))
theorem q_dnewM : QE T X W (.Dict [] [] pos) wDNewM :=
  QE.of pe_dnewK fun env G σ H Q Ex Qv rs rh ex q k => fun p np => k _ _ _ _ (.ref p) (rh.newG (d := .dic [] []) np ⟨[], upd_same, rfl, .nil⟩) (Keep.newG np) (q p (rh.fresh np))
end
end DL
set_option Elab.async false
set_option linter.all false
set_option maxRecDepth 100000
set_option maxHeartbeats 4000000
namespace KL
open PySem PySem.Spec PyProof.Rows L2 DL
/-- whole numbers -/
def IntsD (xs : List D) : Prop := ∀ d ∈ xs, ∃ i : Int, d = .int i ∧ 0 ≤ i
/-- what a bag holds -/
def BagOk (b : List D) : Prop := ∃ (s0 s1 s2 : Int) (cs : List D), b = [.int s0, .int s1, .int s2, .lst cs] ∧ 0 ≤ s0 ∧ 0 ≤ s1 ∧ s1 < 2147483647 ∧ 0 ≤ s2 ∧ IntsD cs
/-- a thing of which one can ask whether it is a number, a name -/
def AskOk (G : GH) (d : D) (a : String) : Prop := tyD G d = some a ∧ ∀ z, d = .str z → z.length ≤ sizeLine ∧ PyData.strOk z = true
def wholeB (a : String) : Bool := instB a "int" && !instB a "bool"
def letters : Str := "abcdefghijklmnopqrstuvwxyz"
def nameB : D → Bool
  | .str z => decide (1 ≤ z.length) && (decide (z.length ≤ 8) && z.cps.toList.all fun c => decide (c ∈ letters.cps.toList))
  | _ => false
def sp_is_integer : DSp := fun ds G Q _ => ∃ d a, ds = [d] ∧ AskOk G d a ∧ Q (.bl (wholeB a)) G
def sp_is_name : DSp := fun ds G Q _ => ∃ d a, ds = [d] ∧ AskOk G d a ∧ Q (.bl (nameB d)) G
def sp_law_bag : DSp := fun ds G Q _ => ∃ ns : List Int, ds = [scriptD ns] ∧ ns.length ≤ 63 ∧ ∀ p b, G p = none → BagOk b → Q (.ref p) (gset G p (.lst b))
def sp_law_take : DSp := fun ds G Q _ => ∃ a m b, ds = [.ref a, .int m] ∧ 0 < m ∧ m < 2 ^ 64 ∧ G a = some (.lst b) ∧ BagOk b ∧ ∀ v b', 0 ≤ v → v < m → BagOk b' → Q (.int v) (gset G a (.lst b'))
/-- what may be shown -/
def ShowOk (d : D) : Prop := okD d = true ∧ showD d = true ∧ (pyR d).showable = true ∧ (pyR d).shown.length ≤ sizeLine ∧ (pyR d).depth ≤ 60
def sp_law_alike : DSp := fun ds G Q _ => ∃ d, ds = [d, d] ∧ ShowOk d ∧ Q (.bl true) G
def t_is_integer : TSd :=
  (wRet (wAnd (wCall (isiO "int") (wCons (wVar 0) (wCons (wC (.ty "int")) wNil))) (wNot (wCall (isiO "bool") (wCons (wVar 0) (wCons (wC (.ty "bool")) wNil))))))
def t_is_name : TSd :=
  (wSeq (wIfS (wOrT (wNotT (wTest (wCall (isiO "str") (wCons (wVar 0) (wCons (wC (.ty "str")) wNil))))) (wNotT (wTest (wChain leO leO (wC (.int 1)) (wCall lenO (wCons (wVar 0) wNil)) (wC (.int 8)))))) (wRet (wC (.bl false))) wNext)
  (wRet (wCall (allO fun bs => bs.all id) (wCons (wLc (wiStr (wVar 0)) (gdName 1) wYes (wOp inSO (wVar 1) (wC (.str "abcdefghijklmnopqrstuvwxyz"))) [1]) wNil))))
def t_law_bag : TSd :=
  (wRet (wLstM (wCons (wC (.int 0)) (wCons (wC (.int 1234567891)) (wCons (wC (.int 0)) (wCons (wLc (wiLst (wSl slO (wVar 0) wNoPart (wPart (wC (.int 63))))) (gdName 1) wYes (wCall absO (wCons (wVar 1) wNil)) [1]) wNil))))))
def t_law_take : TSd :=
  (wSeq (wIfS (wTest (wOp eqO (wOp ixO (wVar 0) (wC (.int 0))) (wC (.int 0)))) (wSeq (wSet 2 (wC (.int 0)))
  (wSeq (wIfS (wTest (wOp ltO (wOp ixO (wVar 0) (wC (.int 2))) (wCall lenO (wCons (wOp ixO (wVar 0) (wC (.int 3))) wNil)))) (wSet 2 (wOp ixO (wOp ixO (wVar 0) (wC (.int 3))) (wOp ixO (wVar 0) (wC (.int 2))))) wNext)
  (wSeq (wAugI (int0 fun i j => .int (i + j)) (wVar 0) (wC (.int 2)) (wC (.int 1)))
  (wSeq (wIfS (wTest (wOp geO (wVar 2) (wC (.int 1000000000000000000)))) (wSetI (wVar 2) (wVar 0) (wC (.int 0))) wNext)
  (wSetI (wOp modO (wOp addO (wOp addO (wOp mulDO (wOp ixO (wVar 0) (wC (.int 1))) (wC (.int 48271))) (wOp modO (wVar 2) (wC (.int 2147483647)))) (wOp mulDO (wC (.int 7919)) (wOp ixO (wVar 0) (wC (.int 2))))) (wC (.int 2147483647))) (wVar 0) (wC (.int 1))))))) wNext)
  (wSeq (wIfS (wTest (wOp gtO (wOp ixO (wVar 0) (wC (.int 0))) (wC (.int 0)))) (wSeq (wSet 3 (wOp modO (wOp ixO (wVar 0) (wC (.int 0))) (wVar 1)))
  (wSeq (wSetI (wOp fdivO (wOp ixO (wVar 0) (wC (.int 0))) (wVar 1)) (wVar 0) (wC (.int 0)))
  (wRet (wVar 3)))) wNext)
  (wSeq (wSet 4 (wOp modO (wOp mulDO (wOp addO (wOp ixO (wVar 0) (wC (.int 1))) (wC (.int 1))) (wC (.int 39373))) (wC (.int 1000000007))))
  (wSeq (wSet 5 (wOp modO (wOp mulDO (wOp modO (wOp mulDO (wVar 4) (wVar 4)) (wC (.int 998244353))) (wC (.int 30011))) (wC (.int 998244353))))
  (wSeq (wIfS (wTest (wOp gtO (wVar 1) (wC (.int 1000000)))) (wRet (wOp modO (wOp addO (wOp mulDO (wVar 5) (wC (.int 1000000007))) (wVar 4)) (wVar 1))) wNext)
  (wRet (wOp modO (wOp fdivO (wVar 5) (wC (.int 7))) (wVar 1))))))))
def t_law_alike : TSd :=
  (wRet (wAnd (wOp eqO (wVar 0) (wVar 1)) (wOp eqO (wCall reprO (wCons (wVar 0) wNil)) (wCall reprO (wCons (wVar 1) wNil)))))
abbrev endsOf (Q : DK) (Ex : DX) : DEnds := { nx := fun _ G' => Q .non G', rt := Q, bk := fun _ _ => False, ct := fun _ _ => False, ex := fun c xs _ G' => Ex c xs G' }
local macro_rules | `(tactic| walk_at "rd") => `(tactic| simp only [wSeq, wRet, wRetN, wNext, wSet, wIfS, wTest, wOp, wC, wVar, wCall, wCons, wNil, wAnd, wOr, wNot, wAndT, wOrT, wNotT, wAugI, wSetI, wChain, wFn, wLstM, wLst, wTup, wSl, wPart, wNoPart, wMS, wYes, wDisp, wPairs, wiRange, exists_eq', exists_eq, List.cons.injEq, wipeE, gdName, wExpr, wLc, wiStr, wiLst, wiTup, itO_l, itO_f, itO_r, inSO_1, notInSO_1, isBO_1, notBO_1, wIf,
  lk, startD, List.map_cons, List.map_nil, List.length_cons, List.length_nil, List.replicate, List.cons_append, List.nil_append, Option.some.injEq, DO.lst.injEq, exists_eq_left', exists_eq_left, exists_and_left, D.bl.injEq, D.int.injEq, D.str.injEq, D.ref.injEq, D.ty.injEq, D.tup.injEq, List.set_cons_zero, List.set_cons_succ, Nat.sub_self, Nat.reduceAdd, Nat.reduceSub, true_and, and_true, if_true, if_false, ite_true, ite_false, Bool.false_eq_true, reduceIte, Bool.not_true, Bool.not_false,
  int0_ii, intO_ii, addO_ii, addO_ss, addO_tt, addO_ll, mulDO_ii, mulDO_li, mulDO_ti, mulDO_si, ixO_t, ixO_l, ixO_f, ixO_s, ixO_r, negO_c, lenO_1, lenO1_s, lenO1_t, lenO1_l, lenO1_f, absO_i, allO_1, isiO_1, reprO_1, joinO_1, appendO_1, slO_t, slO_l, slO_f, slO_s, setO_ri, augAt_ri, topD_i, topD_s, topD_b, topD_n, topD_t, topD_l, topD_f, topD_d, okD_i, okD_b, okD_n, eqD_ii, tyD_n, tyD_b, tyD_i, tyD_s, tyD_t, tyD_l, tyD_f, tyD_d, eqO_ss, eqO_i, eqO_b, eqO_l, eqO_t, eqO_r, neO_ss, neO_i, neO_b, neO_l, neO_t, neO_r, eqG, neG, atI_0, atI_1, atI_2, atI_3, ixN_40, ixN_41, ixN_42, Int.reduceLE, Int.reduceLT, gset_same, gset_gset, decide_eq_true_eq])
theorem nb {b : Bool} (h : ¬ b = true) : b = false := by cases b <;> simp_all
theorem read_is_integer (ds : List D) (G : GH) (Q : DK) (Ex : DX) (h : sp_is_integer ds G Q Ex) : t_is_integer (endsOf Q Ex) (startD ["thing"] ds) G := by
  obtain ⟨d, a, rfl, ⟨ha, _⟩, q⟩ := h
  unfold t_is_integer
  walk_at "rd"
  refine ⟨a, ha, ?_⟩
  unfold wholeB at q
  split
  · rename_i e
    rw [e, Bool.true_and] at q
    exact ⟨a, ha, q⟩
  · rename_i e
    rw [nb e, Bool.false_and] at q
    exact q
theorem cm_r {i j : Int} (h : -(2 ^ 64) < j) (h' : j < 2 ^ 64) : CMulW i j ∨ CMul i j := .inr (.inr ⟨h, h'⟩)
theorem cm_l {i j : Int} (h : -(2 ^ 64) < i) (h' : i < 2 ^ 64) : CMulW i j ∨ CMul i j := .inr (.inl ⟨h, h'⟩)
theorem cd_m {i j : Int} (h : 0 < j) (h' : j < 2 ^ 64) : CDivW i j := ⟨h, by
  have h2 : j.natAbs < 2 ^ 64 := by omega
  have h3 : j.natAbs.log2 < 64 := (Nat.log2_lt (by omega)).mpr h2
  omega⟩
theorem div_bag {s m : Int} (h : 0 ≤ s) (m0 : 0 < m) : 0 ≤ s / m := Int.ediv_nonneg h (by omega)
/-- the part of _law_take behind the draw -/
theorem take_ends {m : Int} {a : Addr} {G : GH} {Q : DK} {s0 s1 s2 : Int} {cs : List D} (m0 : 0 < m) (m1 : m < 2 ^ 64) (h0 : 0 ≤ s0) (h1 : 0 ≤ s1) (h1' : s1 < 2147483647) (h2 : 0 ≤ s2) (hc : IntsD cs)
    (k : ∀ (v : Int) (b' : List D), 0 ≤ v → v < m → BagOk b' → Q (.int v) (gset G a (.lst b'))) : 
    (0 < s0 → 0 < m ∧ CDivW s0 m ∧ Q (.int (s0 % m)) (gset G a (.lst [.int (s0 / m), .int s1, .int s2, .lst cs]))) ∧ ∀ v : Int, Q (.int (v % m)) (gset G a (.lst [.int s0, .int s1, .int s2, .lst cs])) :=
  ⟨fun _ => ⟨m0, cd_m m0 m1, k _ _ (Int.emod_nonneg _ (by omega)) (Int.emod_lt_of_pos _ m0) ⟨_, _, _, _, rfl, div_bag h0 m0, h1, h1', h2, hc⟩⟩,
    fun v => k _ _ (Int.emod_nonneg _ (by omega)) (Int.emod_lt_of_pos _ m0) ⟨_, _, _, _, rfl, h0, h1, h1', h2, hc⟩⟩
local macro_rules | `(tactic| walk_at "tail") => `(tactic| (
  refine ⟨cm_r (by decide) (by decide), cm_l (by omega) (by omega), cm_r (by decide) (by decide), ?_⟩
  split
  · exact ⟨cm_r (by decide) (by decide), by assumption, by apply_assumption⟩
  · exact ⟨cd_m (by decide) (by decide), by assumption, by apply_assumption⟩))
theorem read_law_take (ds : List D) (G : GH) (Q : DK) (Ex : DX) (h : sp_law_take ds G Q Ex) : t_law_take (endsOf Q Ex) (startD ["_law_bag_here", "_law_many", "_law_cell", "_law_value", "_law_first", "_law_second"] ds) G := by
  obtain ⟨a, m, b, rfl, m0, m1, g, ⟨s0, s1, s2, cs, rfl, h0, h1, h1', h2, hc⟩, k⟩ := h
  unfold t_law_take
  repeat (first | walk_at "rd" | simp only [g])
  have new : ∀ x : Int, 0 ≤ x % 2147483647 ∧ x % 2147483647 < 2147483647 := fun x => by omega
  by_cases z : s0 = 0
  · rw [if_pos z]
    subst z
    by_cases l : s2 < cs.length
    · rw [if_pos l]
      have hl : s2.toNat < cs.length := by omega
      obtain ⟨c, ec, c0⟩ := hc cs[s2.toNat] (List.getElem_mem hl)
      refine ⟨.int c, by rw [atI_get cs h2, List.getElem?_eq_getElem hl, ec], ?_⟩
      repeat (first | walk_at "rd" | simp only [g])
      generalize s1 * 48271 + c % 2147483647 + 7919 * (s2 + 1) = w
      obtain ⟨w0, w1⟩ := new w
      by_cases big : 1000000000000000000 ≤ c
      · rw [if_pos big, if_pos (by omega)]
        exact ⟨cm_r (by decide) (by decide), cm_l (by decide) (by decide), (take_ends m0 m1 c0 w0 w1 (show 0 ≤ s2 + 1 by omega) hc k).1 (by omega)⟩
      · rw [if_neg big]
        refine ⟨cm_r (by decide) (by decide), cm_l (by decide) (by decide), ?_⟩
        have kv := (take_ends m0 m1 (Int.le_refl 0) w0 w1 (show 0 ≤ s2 + 1 by omega) hc k).2
        refine ⟨cm_r (by decide) (by decide), cm_l (by omega) (by omega), cm_r (by decide) (by decide), ?_⟩
        split
        · exact ⟨cm_r (by decide) (by decide), m0, kv _⟩
        · exact ⟨cd_m (by decide) (by decide), m0, kv _⟩
    · rw [if_neg l]
      refine ⟨cm_r (by decide) (by decide), cm_l (by decide) (by decide), ?_⟩
      rw [if_neg (by decide)]
      generalize s1 * 48271 + 0 % 2147483647 + 7919 * (s2 + 1) = w
      obtain ⟨w0, w1⟩ := new w
      have kv := (take_ends m0 m1 (Int.le_refl 0) w0 w1 (show 0 ≤ s2 + 1 by omega) hc k).2
      refine ⟨cm_r (by decide) (by decide), cm_l (by omega) (by omega), cm_r (by decide) (by decide), ?_⟩
      split
      · exact ⟨cm_r (by decide) (by decide), m0, kv _⟩
      · exact ⟨cd_m (by decide) (by decide), m0, kv _⟩
  · rw [if_neg z, if_pos (by omega)]
    exact (take_ends m0 m1 h0 h1 h1' h2 hc k).1 (by omega)
theorem read_law_alike (ds : List D) (G : GH) (Q : DK) (Ex : DX) (h : sp_law_alike ds G Q Ex) : t_law_alike (endsOf Q Ex) (startD ["_law_found", "_law_due"] ds) G := by
  obtain ⟨d, rfl, ⟨s1, s2, s3, s4, s5⟩, q⟩ := h
  have et : topD G d = d := by cases d <;> first | rfl | (cases s2)
  unfold t_law_alike
  walk_at "rd"
  refine eqO_self s1 et ?_
  walk_at "rd"
  simp only [s2, s3, s4, s5]
  walk_at "rd"
  exact q
theorem tyD_str {G : GH} {d : D} {a : String} (h : tyD G d = some a) (e : instB a "str" = true) : ∃ z, d = .str z := by
  cases d with
  | str z => exact ⟨z, rfl⟩
  | ref p =>
    have h : tyO (G p) = some a := h
    cases eo : G p with
    | none => rw [eo] at h; cases h
    | some o => rw [eo] at h; cases o <;> (cases h <;> exact absurd e (by decide))
  | _ => cases h <;> exact absurd e (by decide)
theorem not_name {G : GH} {d : D} {a : String} (h : tyD G d = some a) (e : ¬ instB a "str" = true) : nameB d = false := by
  cases d with
  | str z => cases h; exact absurd (by decide) e
  | _ => rfl
theorem read_is_name (ds : List D) (G : GH) (Q : DK) (Ex : DX) (h : sp_is_name ds G Q Ex) : t_is_name (endsOf Q Ex) (startD ["thing", "letter"] ds) G := by
  obtain ⟨d, a, rfl, ⟨ha, hs⟩, q⟩ := h
  unfold t_is_name
  walk_at "rd"
  refine ⟨a, ha, ?_⟩
  by_cases e : instB a "str" = true
  · obtain ⟨z, rfl⟩ := tyD_str ha e
    obtain ⟨hz, _⟩ := hs z rfl
    rw [e]
    walk_at "rd"
    have q : Q (.bl (decide (1 ≤ z.length) && (decide (z.length ≤ 8) && z.cps.toList.all fun c => decide (c ∈ letters.cps.toList)))) G := q
    refine ⟨hz, ?_⟩
    by_cases l1 : 1 ≤ z.length
    · rw [if_pos (by omega)]
      rw [decide_eq_true l1, Bool.true_and] at q
      by_cases l8 : z.length ≤ 8
      · rw [if_neg (by rw [decide_eq_true (show (z.length : Int) ≤ 8 by omega)]; decide)]
        rw [decide_eq_true l8, Bool.true_and] at q
        refine ⟨hz, fun p np => ?_⟩
        refine lc_pure (Q := fun d G => ∃ xs, d = .lst xs ∧ ∃ bs, blsD xs = some bs ∧ Q (.bl (bs.all id)) G) (fun d => some (.bl (decide (sign1 d ∈ letters.cps.toList)))) np (fun _ => trivial) _ (fun d hd acc k hk => ?_) ?_
        · obtain ⟨c, _, rfl⟩ := mem_strD hd
          walk_at "rd"
          exact hk
        · refine ⟨_, rfl, z.cps.toList.map fun c => decide (c ∈ letters.cps.toList), ?_, ?_⟩
          · rw [strD_filterMap]
            show blsD (z.cps.toList.filterMap fun c => some (D.bl (decide (c ∈ letters.cps.toList)))) = _
            rw [List.filterMap_eq_map', blsD_map]
          · rw [all_id]
            exact q
      · rw [if_pos (by rw [decide_eq_false (show ¬ (z.length : Int) ≤ 8 by omega)]; rfl)]
        rw [decide_eq_false l8, Bool.false_and] at q
        exact q
    · rw [if_neg (by omega)]
      rw [decide_eq_false l1, Bool.false_and] at q
      exact q
  · rw [nb e]
    rw [not_name ha e] at q
    exact q
def inL (c : Nat) : Bool := decide (c ∈ letters.cps.toList)
theorem eqvAll_nil (xs : List D) : PyData.eqvAll (pyDs xs) [] = xs.isEmpty := by
  cases xs with
  | nil => rfl
  | cons x r => unfold pyDs; rfl
theorem eqD_nil (xs : List D) : eqD (.lst xs) (.lst []) = xs.isEmpty := by
  unfold eqD pyD
  rw [PyData.eqv]
  exact eqvAll_nil xs
theorem ok_signs : ∀ (cs : List Nat), (∀ c ∈ cs, c < 0x110000) → PyData.canLayAll0 (pyDs (cs.map fun c => D.str ⟨#[c]⟩)) = true ∧ PyData.depthAll (pyDs (cs.map fun c => D.str ⟨#[c]⟩)) = 0
  | [], _ => ⟨rfl, rfl⟩
  | c :: cs, h => by
    obtain ⟨a, b⟩ := ok_signs cs fun d hd => h d (List.mem_cons_of_mem _ hd)
    rw [List.map_cons]
    unfold pyDs pyD PyData.canLayAll0 PyData.depthAll PyData.canLay0 PyData.depth
    refine ⟨?_, by rw [b]; rfl⟩
    rw [a, Bool.and_true]
    unfold PyData.strOk
    simpa using h c List.mem_cons_self
theorem okD_signs {cs : List Nat} (h : ∀ c ∈ cs, c < 0x110000) : okD (.lst (cs.map fun c => D.str ⟨#[c]⟩)) = true := by
  obtain ⟨a, b⟩ := ok_signs cs h
  unfold okD SeqAt.shaped pyD
  rw [PyData.canLay0, PyData.depth, a, b]
  rfl
theorem strOk_mem {z : Str} (h : PyData.strOk z = true) : ∀ c ∈ z.cps.toList, c < 0x110000 := by
  intro c hc
  unfold PyData.strOk at h
  have := Array.all_eq_true_iff_forall_mem.mp h c (by simpa using hc)
  simpa using this
theorem filter_signs (z : Str) (p : Nat → Bool) : (strD z).filterMap (fun d => if p (sign1 d) = true then none else some d) = (z.cps.toList.filter fun c => !p c).map fun c => D.str ⟨#[c]⟩ := by
  rw [strD_filterMap]
  induction z.cps.toList with
  | nil => rfl
  | cons c r ih =>
    rw [List.filterMap_cons, List.filter_cons]
    cases hp : p c with
    | true =>
      rw [if_pos (show p (sign1 (.str ⟨#[c]⟩)) = true from hp), if_neg (by decide)]
      exact ih
    | false =>
      rw [if_neg (show ¬ p (sign1 (.str ⟨#[c]⟩)) = true by rw [show p (sign1 (.str ⟨#[c]⟩)) = false from hp]; decide), if_pos (by decide), List.map_cons]
      exact congrArg _ ih
theorem empty_iff {z : Str} : z = "" ↔ z.length = 0 := by
  constructor
  · intro h; rw [h]; rfl
  · intro h
    obtain ⟨cps⟩ := z
    have e : cps = #[] := Array.eq_empty_of_size_eq_zero h
    rw [e]
    rfl
def absV : D → Int
  | .int i => if i < 0 then -i else i
  | _ => 0
theorem absV_nn (d : D) : 0 ≤ absV d := by
  cases d with
  | int i =>
    show 0 ≤ if i < 0 then -i else i
    split <;> omega
  | _ => exact Int.le_refl 0
theorem read_law_bag (ds : List D) (G : GH) (Q : DK) (Ex : DX) (h : sp_law_bag ds G Q Ex) : t_law_bag (endsOf Q Ex) (startD ["_law_script", "_law_cell"] ds) G := by
  obtain ⟨ns, rfl, hn, k⟩ := h
  unfold t_law_bag scriptD
  walk_at "rd"
  intro p np
  refine lc_pure (Q := fun d G => 4 ≤ sizeLine ∧ ∀ p, G p = none → Q (.ref p) (gset G p (.lst [.int 0, .int 1234567891, .int 0, d]))) (fun d => some (.int (absV d))) np (fun _ => trivial) _ (fun d hd acc kk hkk => ?_) ?_
  · have hm : d ∈ ns.map D.int := List.mem_of_mem_drop (List.mem_of_mem_take hd)
    obtain ⟨n, _, rfl⟩ := List.mem_map.mp hm
    walk_at "rd"
    exact hkk
  · refine ⟨by decide, fun p1 np1 => k p1 _ np1 ⟨_, _, _, _, rfl, by decide, by decide, by decide, by decide, ?_⟩⟩
    intro d hd
    obtain ⟨e, _, h⟩ := List.mem_filterMap.mp hd
    cases h
    exact ⟨_, rfl, absV_nn e⟩
theorem sign_at (l : List Nat) (hs : ∀ c ∈ l, c < 0x110000) {v : Int} (h0 : 0 ≤ v) (h1 : v < l.length) : ∃ c, atI l v = some c ∧ c < 0x110000 := by
  have h : v.toNat < l.length := by omega
  exact ⟨l[v.toNat], by rw [atI_get l h0, List.getElem?_eq_getElem h], hs _ (List.getElem_mem h)⟩
theorem letters_len : letters.cps.toList.length = 26 := by decide
theorem letters_ok : ∀ c ∈ letters.cps.toList, c < 0x110000 := by decide +kernel
def marks : List D := [.str "A", .str "0", .str " ", .str "\n", .str "_", .str "-", .str "{", .str "`", .str "Z"]
def isMark : D → Bool
  | .str z => decide (z.cps.size = 1) && PyData.strOk z
  | _ => false
theorem marks_ok : ∀ y ∈ marks, isMark y = true := by decide +kernel
theorem mark_at {v : Int} (h0 : 0 ≤ v) (h1 : v < 9) : ∃ c, atI marks v = some (.str (tx [c])) ∧ c < 0x110000 := by
  have h : v.toNat < marks.length := by show _ < 9; omega
  have hm := marks_ok _ (List.getElem_mem h)
  rw [atI_get marks h0, List.getElem?_eq_getElem h]
  cases e : marks[v.toNat] with
  | str z =>
    rw [e] at hm
    obtain ⟨m1, m2⟩ := Bool.and_eq_true_iff.mp (show (decide (z.cps.size = 1) && PyData.strOk z) = true from hm)
    obtain ⟨cps⟩ := z
    have m1 : cps.size = 1 := of_decide_eq_true m1
    obtain ⟨l⟩ := cps
    match l, m1 with
    | [c], _ => exact ⟨c, rfl, strOk_mem m2 c (by simp)⟩
  | _ => rw [e] at hm; cases hm
theorem pick (l : List D) {P : D → Prop} (h : ∀ e ∈ l, P e) {y : Int} (h0 : 0 ≤ y) (h1 : y < l.length) : ∃ d, atI l y = some d ∧ P d := by
  have hl : y.toNat < l.length := by omega
  exact ⟨l[y.toNat], by rw [atI_get l h0, List.getElem?_eq_getElem hl], h _ (List.getElem_mem hl)⟩
theorem p12 : (10 : Int) ^ Int.toNat 12 = 1000000000000 := by decide +kernel
theorem p60 : ((10 : Int) ^ Int.toNat 60).natAbs ≤ 10 ^ 60 := by decide +kernel
theorem p45 : ((1 : Int) - 10 ^ Int.toNat 45).natAbs ≤ 10 ^ 60 := by decide +kernel
theorem p60' : 1000000000000 ≤ (10 : Nat) ^ 60 := by decide +kernel
theorem len_is_integer {ds : List D} {G : GH} {Q : DK} {Ex : DX} (h : sp_is_integer ds G Q Ex) : ds.length = 1 := by
  obtain ⟨d, a, rfl, _⟩ := h
  rfl
theorem len_is_name {ds : List D} {G : GH} {Q : DK} {Ex : DX} (h : sp_is_name ds G Q Ex) : ds.length = 1 := by
  obtain ⟨d, a, rfl, _⟩ := h
  rfl
theorem len_law_bag {ds : List D} {G : GH} {Q : DK} {Ex : DX} (h : sp_law_bag ds G Q Ex) : ds.length = 1 := by
  obtain ⟨ns, rfl, _⟩ := h
  rfl
theorem len_law_take {ds : List D} {G : GH} {Q : DK} {Ex : DX} (h : sp_law_take ds G Q Ex) : ds.length = 2 := by
  obtain ⟨a, m, b, rfl, _⟩ := h
  rfl
theorem len_law_alike {ds : List D} {G : GH} {Q : DK} {Ex : DX} (h : sp_law_alike ds G Q Ex) : ds.length = 2 := by
  obtain ⟨d, rfl, _⟩ := h
  rfl
end KL
set_option Elab.async false
set_option linter.all false
set_option maxRecDepth 100000
set_option maxHeartbeats 4000000
namespace KL
open PySem PySem.Spec PyProof.Rows L2 DL
/-! small data: what may be compared and shown -/
structure Sm (d : D) (b k : Nat) : Prop where
  fl : flatD d = true
  sh : (pyR d).showable = true
  lv : (pyR d).leavesShort 100 = true
  bk : (pyR d).bulk ≤ b
  dp : (pyR d).depth ≤ k
  ly : (pyD d).canLay0 = true
  dl : (pyD d).depth ≤ k
theorem Sm.mono {d : D} {b k b' k' : Nat} (h : Sm d b k) (hb : b ≤ b') (hk : k ≤ k') : Sm d b' k' := ⟨h.fl, h.sh, h.lv, Nat.le_trans h.bk hb, Nat.le_trans h.dp hk, h.ly, Nat.le_trans h.dl hk⟩
theorem log_small (n : Nat) (h : n ≤ 10 ^ 60) : n.log2 < 1920 := by
  by_cases h0 : n = 0
  · rw [h0]; decide
  · exact (Nat.log2_lt h0).mpr (Nat.lt_of_le_of_lt h (by decide +kernel))
theorem shown_small {i : Int} (h : i.natAbs ≤ 10 ^ 60) : (PyData.shown (.int i)).length ≤ 100 := by
  have e := int_text_length_le10 (k := 61) (by decide) (Nat.lt_of_le_of_lt h (by decide +kernel))
  unfold PyData.shown
  show (Str.ofString (toString i)).length ≤ 100
  rw [PySem.ofString_length]
  omega
theorem sm_int {i : Int} (h : i.natAbs ≤ 10 ^ 60) : Sm (.int i) 0 0 :=
  ⟨rfl, decide_eq_true (log_small _ h), decide_eq_true (shown_small h), Nat.le_refl _, Nat.le_refl _, rfl, Nat.le_refl _⟩
theorem sm_bl (b : Bool) : Sm (.bl b) 0 0 := ⟨rfl, rfl, rfl, Nat.le_refl _, Nat.le_refl _, rfl, Nat.le_refl _⟩
theorem sm_non : Sm .non 0 0 := ⟨rfl, rfl, rfl, Nat.le_refl _, Nat.le_refl _, rfl, Nat.le_refl _⟩
theorem sm_str {z : Str} (h : PyData.strOk z = true) : Sm (.str z) z.length 0 := by
  refine ⟨rfl, rfl, ?_, Nat.le_refl _, Nat.le_refl _, h, Nat.le_refl _⟩
  show (z.cps.toList.all fun c => decide (c < 16 ^ 8)) = true
  refine List.all_eq_true.mpr fun c hc => decide_eq_true ?_
  have := strOk_mem h c hc
  omega
theorem sm_all {b k : Nat} : ∀ {xs : List D}, (∀ x ∈ xs, Sm x b k) → flatDs xs = true ∧ PyData.showableAll (pyRs xs) = true ∧ PyData.leavesShortAll 100 (pyRs xs) = true ∧ PyData.bulkAll (pyRs xs) ≤ xs.length * (b + 1) ∧ PyData.depthAll (pyRs xs) ≤ k ∧ PyData.canLayAll0 (pyDs xs) = true ∧ PyData.depthAll (pyDs xs) ≤ k
  | [], _ => ⟨rfl, rfl, rfl, Nat.zero_le _, Nat.zero_le _, rfl, Nat.zero_le _⟩
  | x :: xs, h => by
    have hx := h x List.mem_cons_self
    obtain ⟨a1, a2, a3, a4, a5, a6, a7⟩ := sm_all fun y hy => h y (List.mem_cons_of_mem _ hy)
    have h1 := hx.bk
    have h2 := hx.dp
    have h3 := hx.dl
    refine ⟨?_, ?_, ?_, ?_, ?_, ?_, ?_⟩
    · show (flatD x && flatDs xs) = true
      rw [hx.fl, a1]; rfl
    · show ((pyR x).showable && PyData.showableAll (pyRs xs)) = true
      rw [hx.sh, a2]; rfl
    · show ((pyR x).leavesShort 100 && PyData.leavesShortAll 100 (pyRs xs)) = true
      rw [hx.lv, a3]; rfl
    · show (pyR x).bulk + 1 + PyData.bulkAll (pyRs xs) ≤ (xs.length + 1) * (b + 1)
      rw [Nat.succ_mul]
      omega
    · show max (pyR x).depth (PyData.depthAll (pyRs xs)) ≤ k
      omega
    · show ((pyD x).canLay0 && PyData.canLayAll0 (pyDs xs)) = true
      rw [hx.ly, a6]; rfl
    · show max (pyD x).depth (PyData.depthAll (pyDs xs)) ≤ k
      omega
theorem sm_tup {b k : Nat} {xs : List D} (h : ∀ x ∈ xs, Sm x b k) : Sm (.tup xs) (xs.length * (b + 1)) (k + 1) :=
  let ⟨a1, a2, a3, a4, a5, a6, a7⟩ := sm_all h
  ⟨a1, a2, a3, a4, Nat.succ_le_succ a5, by unfold pyD PyData.canLay0; exact a6, by unfold pyD PyData.depth; exact Nat.succ_le_succ a7⟩
theorem sm_lst {b k : Nat} {xs : List D} (h : ∀ x ∈ xs, Sm x b k) : Sm (.lst xs) (xs.length * (b + 1)) (k + 1) :=
  let ⟨a1, a2, a3, a4, a5, a6, a7⟩ := sm_all h
  ⟨a1, a2, a3, a4, Nat.succ_le_succ a5, by unfold pyD PyData.canLay0; exact a6, by unfold pyD PyData.depth; exact Nat.succ_le_succ a7⟩
theorem sm_tupp {b k : Nat} {xs : List D} (h : ∀ x ∈ xs, Sm x b k) : Sm (.tupp xs) (xs.length * (b + 1)) (k + 1) :=
  let ⟨a1, a2, a3, a4, a5, a6, a7⟩ := sm_all h
  ⟨a1, a2, a3, a4, Nat.succ_le_succ a5, by unfold pyD PyData.canLay0; exact a6, by unfold pyD PyData.depth; exact Nat.succ_le_succ a7⟩
theorem Sm.ok {d : D} {b k : Nat} (h : Sm d b k) (hk : k ≤ 60) : okD d = true := by
  unfold okD SeqAt.shaped
  rw [h.ly, Bool.true_and]
  exact decide_eq_true (Nat.le_trans h.dl (by omega))
theorem flat_show {d : D} (h : flatD d = true) : showD d = true := by
  cases d with
  | dic ks vs => cases h
  | _ => exact h
theorem Sm.show {d : D} {b k : Nat} (h : Sm d b k) (hb : b ≤ 100000) (hk : k ≤ 60) : ShowOk d := by
  refine ⟨h.ok hk, flat_show h.fl, h.sh, ?_, Nat.le_trans h.dp hk⟩
  have h1 := PyData.shown_le_bulk 100 (by decide) _ h.lv
  have h2 := h.bk
  rw [sizeLine_eq]
  omega
/-! slices -/
theorem six_lo (n : Nat) : HT.sIx n 0 none = 0 := rfl
theorem six_hi (n : Nat) : HT.sIx n n none = n := rfl
theorem six_at {n m i : Nat} (h : i ≤ n) : HT.sIx n m (some (i : Int)) = i := by
  unfold HT.sIx
  simp only
  split <;> omega
theorem cut_to {α : Type} {xs : List α} {i : Nat} (h : i ≤ xs.length) : DL.cutD xs none (some (i : Int)) = xs.take i := by
  unfold DL.cutD
  rw [six_at h, six_lo, List.drop_zero, Nat.sub_zero]
theorem cut_from {α : Type} {xs : List α} {i : Nat} (h : i ≤ xs.length) : DL.cutD xs (some (i : Int)) none = xs.drop i := by
  unfold DL.cutD
  rw [six_at h, six_hi, List.take_of_length_le (by rw [List.length_drop]; omega)]
theorem cut_but {α : Type} {xs : List α} : DL.cutD xs none (some (-1)) = xs.take (xs.length - 1) := by
  unfold DL.cutD
  have e : HT.sIx xs.length xs.length (some (-1)) = xs.length - 1 := by
    unfold HT.sIx
    simp only
    split <;> omega
  rw [e, six_lo, List.drop_zero, Nat.sub_zero]
/-! loops by index -/
theorem wForL_ix {stay : GH → Prop} {g : TGd} {t : TSd} {De : DEnds} {L : List D} (I : Nat → Ev → GH → Prop) (hend : ∀ env G, I L.length env G → stay G ∧ De.nx env G)
    (hstep : ∀ i d env G (nx : Ev → GH → Prop), L[i]? = some d → I i env G → (∀ env' G', I (i + 1) env' G' → nx env' G') → stay G ∧ g d env G (fun env1 G1 => t { De with nx := nx, ct := nx, bk := De.nx } env1 G1) (fun c xs G' => De.ex c xs env G'))
    (env : Ev) (G : GH) (h : I 0 env G) : wForL stay g t De L env G := by
  refine wForL_inv (I := fun r env G => ∃ i, r = L.drop i ∧ i ≤ L.length ∧ I i env G) ?_ ?_ L env G ⟨0, rfl, Nat.zero_le _, h⟩
  · rintro env G ⟨i, e, hi, h⟩
    have : i = L.length := by
      have := congrArg List.length e
      rw [List.length_drop, List.length_nil] at this
      omega
    subst this
    exact hend env G h
  · rintro d r env G nx ⟨i, e, hi, h⟩ hnx
    have hl : i < L.length := by
      have := congrArg List.length e
      rw [List.length_drop, List.length_cons] at this
      omega
    rw [List.drop_eq_getElem_cons hl] at e
    obtain ⟨rfl, rfl⟩ := List.cons.inj e
    exact hstep i _ env G nx (List.getElem?_eq_getElem hl) h fun env' G' h' => hnx env' G' ⟨i + 1, rfl, hl, h'⟩
/-- a comprehension whose words leave what changes alone -/
theorem lc_each {p : Addr} {stay : GH → Prop} {gd : TGd} {te : TEd} {env0 : Ev} {Q : List D → GH → Prop} {G0 : GH} {L : List D} (f : D → D) (hst : ∀ acc, stay (gset G0 p (.lst acc)))
    (h : ∀ d ∈ L, ∀ acc (k : List D → GH → Prop), k (acc ++ [f d]) (gset G0 p (.lst (acc ++ [f d]))) → lcTurn p gd wYes te env0 d acc (gset G0 p (.lst acc)) k)
    (q : Q (L.map f) (gset G0 p (.lst (L.map f)))) : wCompL p stay gd wYes te env0 Q L [] (gset G0 p (.lst [])) := by
  refine lc_map (fun d => some (f d)) hst L [] (fun d hd acc k hk => h d hd acc k hk) ?_
  rw [List.nil_append, List.filterMap_eq_map']
  exact q
/-- a dict comprehension whose keys differ -/
abbrev dcTurn (p : Addr) (gd : TGd) (tk tv : TEd) (env0 : Ev) (d : D) (ks : List Key) (vs : List D) (G : GH) (k : Key → D → GH → Prop) : Prop :=
  gd d env0 G (fun env1 G1 => tk env1 G1 (fun y G3 => tv env1 G3 (fun z G4 => G4 p = some (.dic ks vs) ∧ ∃ kk, keyD y = some kk ∧ k kk z G4) (fun _ _ _ => False)) (fun _ _ _ => False)) (fun _ _ _ => False)
theorem put_new {ks : List Key} {k : Key} (h : k ∉ ks) : putKs ks k = ks ++ [k] := by
  unfold putKs
  rw [if_neg]
  intro e
  unfold memK at e
  obtain ⟨x, hx, e⟩ := List.any_eq_true.mp e
  exact h (of_decide_eq_true e ▸ hx)
theorem put_newV {ks : List Key} {vs : List D} {k : Key} {v : D} (h : k ∉ ks) : putVs ks vs k v = vs ++ [v] := by
  unfold putVs
  rw [if_neg]
  intro e
  unfold memK at e
  obtain ⟨x, hx, e⟩ := List.any_eq_true.mp e
  exact h (of_decide_eq_true e ▸ hx)
theorem dc_each {p : Addr} {stay : GH → Prop} {gd : TGd} {tk tv : TEd} {env0 : Ev} {Q : List Key → List D → GH → Prop} {G0 : GH} (f : D → Key) (w : D → D) (hst : ∀ ks vs, stay (gset G0 p (.dic ks vs))) :
    ∀ (L : List D) (ks : List Key) (vs : List D), (ks ++ L.map f).Nodup →
      (∀ d ∈ L, ∀ ks vs (k : Key → D → GH → Prop), k (f d) (w d) (gset G0 p (.dic ks vs)) → dcTurn p gd tk tv env0 d ks vs (gset G0 p (.dic ks vs)) k) →
      Q (ks ++ L.map f) (vs ++ L.map w) (gset G0 p (.dic (ks ++ L.map f) (vs ++ L.map w))) → wDcL p stay gd wYes tk tv env0 Q L ks vs (gset G0 p (.dic ks vs))
  | [], ks, vs, _, _, q => by
    refine ⟨hst _ _, gset_same, ?_⟩
    simpa using q
  | d :: L, ks, vs, nd, h, q => by
    refine ⟨hst _ _, ?_⟩
    have nk : f d ∉ ks := fun hm => by
      rw [List.map_cons] at nd
      exact (List.nodup_append.mp nd).2.2 _ hm _ List.mem_cons_self rfl
    refine h d List.mem_cons_self ks vs (fun kk z G4 => wDcL p stay gd wYes tk tv env0 Q L (putKs ks kk) (putVs ks vs kk z) (gset G4 p (.dic (putKs ks kk) (putVs ks vs kk z)))) ?_
    show wDcL p stay gd wYes tk tv env0 Q L (putKs ks (f d)) (putVs ks vs (f d) (w d)) (gset (gset G0 p _) p (.dic (putKs ks (f d)) (putVs ks vs (f d) (w d))))
    rw [gset_gset, put_new nk, put_newV nk]
    refine dc_each f w hst L _ _ ?_ (fun d hd => h d (List.mem_cons_of_mem _ hd)) ?_
    · rw [List.append_assoc]
      simpa using nd
    · rw [List.append_assoc, List.append_assoc]
      exact q
end KL
namespace KL
open PySem PySem.Spec PyProof.Rows L2 DL
theorem gdTupN_2 {i j : Nat} {a b : D} {env : Ev} {G : GH} {Q : Ev → GH → Prop} {Ex : DX} : gdTupN [i, j] (.tup [a, b]) env G Q Ex ↔ Q ((env.set i (some a)).set j (some b)) G :=
  ⟨fun ⟨_, _, e, e2, q⟩ => by cases e; cases e2; exact q, fun q => ⟨_, _, rfl, rfl, q⟩⟩
theorem gdTupN_3 {i j k : Nat} {a b c : D} {env : Ev} {G : GH} {Q : Ev → GH → Prop} {Ex : DX} : gdTupN [i, j, k] (.tup [a, b, c]) env G Q Ex ↔ Q (((env.set i (some a)).set j (some b)).set k (some c)) G :=
  ⟨fun ⟨_, _, e, e2, q⟩ => by cases e; cases e2; exact q, fun q => ⟨_, _, rfl, rfl, q⟩⟩
theorem gdPat_in {i j k l : Nat} {a b c d : D} {env : Ev} {G : GH} {Q : Ev → GH → Prop} {Ex : DX} : gdPat (.tp [.nm i, .tp [.nm j, .nm k, .nm l]]) (.tup [a, .tup [b, c, d]]) env G Q Ex ↔ Q ((((env.set i (some a)).set j (some b)).set k (some c)).set l (some d)) G :=
  ⟨fun ⟨_, e, q⟩ => by cases e; exact q, fun q => ⟨_, rfl, q⟩⟩
theorem iB_tt : instB "tuple" "tuple" = true := by decide
theorem iB_lt : instB "list" "tuple" = false := by decide
theorem iB_tl : instB "tuple" "list" = false := by decide
theorem iB_ll : instB "list" "list" = true := by decide
theorem wh_int : wholeB "int" = true := by decide
theorem sp_name_ok {d : D} {a : String} {G : GH} {Q : DK} {Ex : DX} (h : AskOk G d a) (q : Q (.bl (nameB d)) G) : sp_is_name [d] G Q Ex := ⟨d, a, rfl, h, q⟩
end KL
namespace KL
open PySem PySem.Spec PyProof.Rows L2 DL
mutual
/-- numbers, texts, None, tuples and lists of these -/
def pl : D → Bool
  | .non => true
  | .int _ => true
  | .str _ => true
  | .tup xs => pls xs
  | .lst xs => pls xs
  | _ => false
def pls : List D → Bool
  | [] => true
  | x :: xs => pl x && pls xs
end
mutual
theorem pl_eq : ∀ {x y : D}, pl x = true → pl y = true → PyData.eqv (pyD x) (pyD y) = true → x = y
  | .non, y, _, hy, h => by
    cases y with
    | non => rfl
    | int _ | str _ | tup _ | lst _ => unfold pyD PyData.eqv at h; cases h
    | _ => cases hy
  | .int i, y, _, hy, h => by
    cases y with
    | int j => unfold pyD PyData.eqv at h; rw [beq_iff_eq.mp h]
    | non | str _ | tup _ | lst _ => unfold pyD PyData.eqv at h; cases h
    | _ => cases hy
  | .str i, y, _, hy, h => by
    cases y with
    | str j => unfold pyD PyData.eqv at h; rw [beq_iff_eq.mp h]
    | non | int _ | tup _ | lst _ => unfold pyD PyData.eqv at h; cases h
    | _ => cases hy
  | .tup xs, y, hx, hy, h => by
    cases y with
    | tup ys => unfold pyD PyData.eqv at h; rw [pls_eq hx hy h]
    | non | int _ | str _ | lst _ => unfold pyD PyData.eqv at h; cases h
    | _ => cases hy
  | .lst xs, y, hx, hy, h => by
    cases y with
    | lst ys => unfold pyD PyData.eqv at h; rw [pls_eq hx hy h]
    | non | int _ | str _ | tup _ => unfold pyD PyData.eqv at h; cases h
    | _ => cases hy
  | .bl _, _, hx, _, _ => by cases hx
  | .ty _, _, hx, _, _ => by cases hx
  | .ref _, _, hx, _, _ => by cases hx
  | .frl _, _, hx, _, _ => by cases hx
  | .dic _ _, _, hx, _, _ => by cases hx
  | .obj _ _, _, hx, _, _ => by cases hx
  | .exc _ _ _ _, _, hx, _, _ => by cases hx
theorem pls_eq : ∀ {xs ys : List D}, pls xs = true → pls ys = true → PyData.eqvAll (pyDs xs) (pyDs ys) = true → xs = ys
  | [], [], _, _, _ => rfl
  | [], _ :: _, _, _, h => by unfold pyDs PyData.eqvAll at h; cases h
  | _ :: _, [], _, _, h => by unfold pyDs PyData.eqvAll at h; cases h
  | x :: xs, y :: ys, hx, hy, h => by
    unfold pyDs PyData.eqvAll at h
    obtain ⟨h1, h2⟩ := Bool.and_eq_true_iff.mp h
    obtain ⟨x1, x2⟩ := Bool.and_eq_true_iff.mp (show (pl x && pls xs) = true from hx)
    obtain ⟨y1, y2⟩ := Bool.and_eq_true_iff.mp (show (pl y && pls ys) = true from hy)
    rw [pl_eq x1 y1 h1, pls_eq x2 y2 h2]
end
theorem pls_all {xs : List D} (h : ∀ x ∈ xs, pl x = true) : pls xs = true := by
  induction xs with
  | nil => rfl
  | cons x r ih =>
    show (pl x && pls r) = true
    rw [h x List.mem_cons_self, ih fun y hy => h y (List.mem_cons_of_mem _ hy)]
    rfl
theorem eqD_pl {x y : D} (hx : pl x = true) (hy : pl y = true) (ok : okD x = true) : eqD x y = true ↔ x = y :=
  ⟨fun h => pl_eq hx hy h, fun h => h ▸ eqD_refl ok⟩
end KL
set_option Elab.async false
set_option linter.all false
set_option maxRecDepth 100000
set_option maxHeartbeats 4000000
/-! exceptions of the program's own: raise, try .. except .. as, their field, isinstance -/
namespace DL
open PySem PySem.Spec PyProof.Rows L2
/-- an exception class with the field f -/
structure XClOk (K : PySem.W.Frag) (C : Addr) (f : Str) : Prop where
  oex : OexC K C
  xf : XfC K C
  no : PySem.W.findIn K (.ref C) f = some none
  ca : PySem.W.findIn K (.ref C) "__class__" = some (some (.builtin "object.__class__"))
  cn : PySem.W.specialIn K (.builtin "object.__class__") "__get__" = some (some (.builtin "getset_descriptor.__get__"))
  ct : PySem.W.takesIn K (.builtin "object.__class__") = some true
  cm : PySem.W.mroIn K C (.type "object") = some true
def xobB (K : PySem.W.Frag) (C : Addr) : Bool := match K.lookup C with
  | some ⟨.type "type", _, .cls cd, sl⟩ => (match cd.mro, sl.toList with
    | .ref C' :: bm, [_, _, _, _, some (.builtin n), _] => C' == C && (n == "ValueError.__new__" && (!cd.hasDel && (cd.hasDict && PySem.HandSPX.refsVE bm)))
    | _, _ => false)
  | _ => false
theorem xobB_ok {K : PySem.W.Frag} {C : Addr} (h : xobB K C = true) : ∃ nm q N bs bm sn sub ab col dd k0 k1 k2 k3 k5, K.lookup C = some (excClassObj nm q C N bs bm true sn sub ab col dd k0 k1 k2 k3 k5 "ValueError.__new__") ∧ PySem.HandSPX.refsVE bm = true := by
  unfold xobB at h
  split at h
  · rename_i dd cd sl ho
    split at h
    · rename_i C' bm k0 k1 k2 k3 n k5 hm hs
      simp only [Bool.and_eq_true, beq_iff_eq, Bool.not_eq_true'] at h
      obtain ⟨rfl, rfl, h3, h4, h5⟩ := h
      obtain ⟨nm, bs, mro, ns, qn, hd, sn, sub, ab, col, del⟩ := cd
      dsimp only at hm h3 h4
      subst hm h3 h4
      obtain ⟨l⟩ := sl
      simp only at hs
      subst hs
      exact ⟨nm, qn, ns, bs, bm, sn, sub, ab, col, dd, k0, k1, k2, k3, k5, ho, h5⟩
    · cases h
  · cases h
/-- the test of it -/
def xclB (K : PySem.W.Frag) (C : Addr) (f : Str) : Bool :=
  xobB K C && (decide (PySem.W.findIn K (.ref C) "__setattr__" = some (some (.builtin "object.__setattr__"))) && (decide (PySem.W.subIn K (.ref C) (.type "BaseException") = some true) && (decide (PySem.W.typeIn K (.ref C) = some (.type "type")) && (PySem.W.keepIn K (.ref C) &&
    (xfB K C && (decide (PySem.W.findIn K (.ref C) f = some none) && (decide (PySem.W.findIn K (.ref C) "__class__" = some (some (.builtin "object.__class__"))) && (decide (PySem.W.specialIn K (.builtin "object.__class__") "__get__" = some (some (.builtin "getset_descriptor.__get__"))) &&
      (decide (PySem.W.takesIn K (.builtin "object.__class__") = some true) && decide (PySem.W.mroIn K C (.type "object") = some true))))))))))
theorem xclB_ok {K : PySem.W.Frag} {C : Addr} {f : Str} (h : xclB K C f = true) : XClOk K C f := by
  obtain ⟨h0, h⟩ := Bool.and_eq_true_iff.mp h
  obtain ⟨h1, h⟩ := Bool.and_eq_true_iff.mp h
  obtain ⟨h2, h⟩ := Bool.and_eq_true_iff.mp h
  obtain ⟨h3, h⟩ := Bool.and_eq_true_iff.mp h
  obtain ⟨h4, h⟩ := Bool.and_eq_true_iff.mp h
  obtain ⟨h5, h⟩ := Bool.and_eq_true_iff.mp h
  obtain ⟨h6, h⟩ := Bool.and_eq_true_iff.mp h
  obtain ⟨h7, h⟩ := Bool.and_eq_true_iff.mp h
  obtain ⟨h8, h⟩ := Bool.and_eq_true_iff.mp h
  obtain ⟨h9, h10⟩ := Bool.and_eq_true_iff.mp h
  exact ⟨⟨xobB_ok h0, of_decide_eq_true h1, of_decide_eq_true h2, of_decide_eq_true h3, h4⟩, xfB_ok h5, of_decide_eq_true h6, of_decide_eq_true h7, of_decide_eq_true h8, of_decide_eq_true h9, of_decide_eq_true h10⟩
/-- __init__(self, f): self.f = f -/
def spIni (K : PySem.W.Frag) (f : Str) : Sp := fun vs H Q _ => ∃ (a C : Addr) (v : V), vs = [.ref a, v] ∧ OexC K C ∧ PySem.W.findIn K (.ref C) f = some none ∧ H a = some (exo a C none) ∧
  ∀ dx, H dx = none → dx ≠ a → Q .non (upd (upd H dx (exd dx [(f, v)])) a (exo a C (some dx)))
def tIni (K : PySem.W.Frag) (f : Str) : TS := tOst K f (tVar 0) (tVar 1)
theorem ini_ok {P : Program} {w : World} {K : PySem.W.Frag} {mg : Str → Option Value} {base : Heap} {x qual f : Str} {params : Arguments} {st : List Stmt} {scope : Scope} {fI : Addr} {fd : FuncData} (F : FunD K x qual params st scope [] [] fI fd) (S : FnScope ["self", f] ["self", f] scope)
    (body : ∀ (cdv : Value) (A : Around) (outer : List Env) (s : Shared) (H : Hp) (E : XK), PSs (cxOf CX0 P w K mg base ["self", f] qual scope fI cdv A outer s H E) st (tIni K f)) : FnOk P w K mg base CX0 1 fI fd ["self", f] (spIni K f) := by
  refine FunD.ok F S (fun vs H Q E ⟨a, C, v, e, _⟩ => by rw [e]; rfl) fun cdv A outer s H vs Q E hr ⟨a, C, v, e, h1, h2, h3, h4⟩ => ⟨_, body cdv A outer s H E, ?_⟩
  subst e
  exact ⟨v, rfl, .ref a, rfl, a, C, rfl, h1, h2, .inl ⟨h3, h4⟩⟩
/-- an exception class that may be called -/
structure CalX (T : Tb) (P : Program) (w : World) (mg : Str → Option Value) (base : Heap) (x : Str) (c : Nat) (f : Str) : Prop where
  ex : ∃ fI fd, PySem.W.findIn T.K (.ref (T.cls c)) "__init__" = some (some (.ref fI)) ∧ PySem.W.typeIn T.K (.ref fI) = some (.type "function") ∧ FnOk P w T.K mg base CX0 1 fI fd ["self", f] (spIni T.K f) ∧ Binds T.K fd ["self", f] []
  ok : XClOk T.K (T.cls c) f
  g : mg x = some (.ref (T.cls c))
  fl : T.flds c = [f]
def wRaise (c : Nat) (te : TEd) : TSd := fun De env G => te env G (fun d G1 => De.ex c [d] env G1) (fun c' ds G' => De.ex c' ds env G')
section
variable {T : Tb} {X : Cx} {W : WX} {c : Nat} {x f : Str} {e : Expr} {te : TEd} {p pos pos2 : Pos}
theorem xmade {H : Hp} {a dx C : Addr} {f : Str} {v : V} {u : HO} (ha : H a = none) (h : dx ≠ a) : upd (del (upd (upd (upd H a (exo a C none)) dx (exd dx [(f, v)])) a (exo a C (some dx))) a) dx u = upd H dx u := by
  funext b
  by_cases hb : b = dx
  · subst hb; rw [upd_same, upd_same]
  · rw [upd_ne hb, upd_ne hb]
    by_cases hba : b = a
    · subst hba; rw [del_same, ha]
    · rw [del_ne hba, upd_ne hba, upd_ne hb, upd_ne hba]
theorem q_raise (hc : X.calm = true) (tk : Takes X W) (hK : X.K = T.K) (C : CalX T X.prog X.w X.mg X.base x c f) (hr : RoomG 2 X.A) (he : QE T X W e te) (hg : Gl X x := by rfl) (hdb : (x == ("__debug__" : Str)) = false := by decide)
    (hst : starEach [e] X.env = (false, eval e X.env) :: starEach [] X.env := by rfl) (hpl : (backTo pos (starEach [] X.env)).any (·.1) = false := by rfl) :
    QS T X W (.Raise (some (.Call (.Name x p) [e] [] pos)) none pos2) (wRaise c te) := by
  obtain ⟨fI, fd, h1, h2, h3, h4⟩ := C.ex
  have ok := C.ok
  rw [← hK] at h1 h2 h3 h4 ok
  refine QS.of (ps_raise hc tk (pmk_oex ok.oex h1 h2 h3 hr.r h4 .nil pass0 hg C.g (pa_cons he.pe pa_nil hst) hdb hst hpl)) fun env G De Dv σ H rs rh ex en q => ?_
  refine intoE rs rh (ex.at rs) q fun d v G1 H1 rd rh1 k1 q1 => ⟨(by decide : 1 ≤ 1000), fun a ha => ⟨a, T.cls c, v, rfl, ok.oex, ok.no, upd_same, fun dx hdx hne => ⟨rfl, dx, [(f, v)], upd_same, by rw [upd_ne hne, upd_same], ?_, ?_⟩⟩⟩
  · rw [upd_ne hne] at hdx; exact hdx
  · rw [upd_ne hne] at hdx
    rw [xmade ha hne]
    exact ex c [d] env G1 _ (some dx) σ _ q1 ⟨rfl, .inr ⟨dx, [v], rfl, rh1.fresh hdx, by rw [C.fl]; exact upd_same, by rw [C.fl]; rfl, .cons (rd.keep (Keep.new hdx)) .nil⟩⟩ ((rs.keep k1).keep (Keep.new hdx)) (rh1.new hdx) (k1.trans (Keep.new hdx))
end
/-- the classes of exceptions among the first m: isx, each with its field; sub c c': c is c' or below it -/
structure XKit (T : Tb) (m : Nat) (isx : Nat → Bool) (fld : Nat → Str) (sub : Nat → Nat → Bool) : Prop where
  ok : ∀ c, c < m → isx c = true → XClOk T.K (T.cls c) (fld c)
  fl : ∀ c, c < m → isx c = true → T.flds c = [fld c]
  sub : ∀ c, c < m → isx c = true → ∀ c', c' < m → PySem.W.kitOne T.K (.ref (T.cls c)) (.ref (T.cls c')) = some (sub c c')
/-- what an except clause may name -/
def XHit (T : Tb) (m : Nat) (isx : Nat → Bool) (sub : Nat → Nat → Bool) (h : Nat) : Prop := ∀ c, c < m → isx c = true → PySem.W.exmOne T.K (.ref (T.cls c)) (.ref (T.cls h)) = some (sub c h)
/-- the test of it: ns the classes' names, hs those that except clauses name -/
def xkitTest (ns : List Str) (isx : Nat → Bool) (fld : Nat → Str) (sub : Nat → Nat → Bool) (hs : List Nat) (K : PySem.W.Frag) : Bool :=
  (List.range ns.length).all fun c => !isx c || (xclB K (He.ga K (ns.getD c "")) (fld c) && (((List.range ns.length).all fun c' => decide (PySem.W.kitOne K (.ref (He.ga K (ns.getD c ""))) (.ref (He.ga K (ns.getD c' ""))) = some (sub c c'))) &&
    hs.all fun h => decide (PySem.W.exmOne K (.ref (He.ga K (ns.getD c ""))) (.ref (He.ga K (ns.getD h ""))) = some (sub c h))))
section
variable {ns : List Str} {isx : Nat → Bool} {fld : Nat → Str} {sub : Nat → Nat → Bool} {hs : List Nat} {T : Tb}
theorem xkit_at (h : xkitTest ns isx fld sub hs T.K = true) {c : Nat} (hc : c < ns.length) (hi : isx c = true) : xclB T.K (He.ga T.K (ns.getD c "")) (fld c) = true ∧ (∀ c', c' < ns.length → PySem.W.kitOne T.K (.ref (He.ga T.K (ns.getD c ""))) (.ref (He.ga T.K (ns.getD c' ""))) = some (sub c c')) ∧
    ∀ h ∈ hs, PySem.W.exmOne T.K (.ref (He.ga T.K (ns.getD c ""))) (.ref (He.ga T.K (ns.getD h ""))) = some (sub c h) := by
  have q := List.all_eq_true.mp h c (List.mem_range.mpr hc)
  rw [hi, Bool.not_true, Bool.false_or] at q
  obtain ⟨q1, q2⟩ := Bool.and_eq_true_iff.mp q
  obtain ⟨q2, q3⟩ := Bool.and_eq_true_iff.mp q2
  exact ⟨q1, fun c' hc' => of_decide_eq_true (List.all_eq_true.mp q2 c' (List.mem_range.mpr hc')), fun h hh => of_decide_eq_true (List.all_eq_true.mp q3 h hh)⟩
theorem xkit_test (hT : T.cls = fun c => He.ga T.K (ns.getD c "")) (hF : ∀ c, c < ns.length → isx c = true → T.flds c = [fld c]) (h : xkitTest ns isx fld sub hs T.K = true) : XKit T ns.length isx fld sub := by
  refine ⟨fun c hc hi => ?_, hF, fun c hc hi c' hc' => ?_⟩
  · rw [hT]; exact xclB_ok (xkit_at h hc hi).1
  · rw [hT]; exact (xkit_at h hc hi).2.1 c' hc'
theorem xhit_test (hT : T.cls = fun c => He.ga T.K (ns.getD c "")) (h : xkitTest ns isx fld sub hs T.K = true) {k : Nat} (hk : k ∈ hs) : XHit T ns.length isx sub k := fun c hc hi => by
  rw [hT]; exact (xkit_at h hc hi).2.2 k hk
end
/-! ### try .. except C as n -/
def suEnds (i : Nat) (De : DEnds) : DEnds := { nx := fun e2 G2 => De.nx (e2.set i none) G2, rt := De.rt, bk := fun e2 G2 => De.bk (e2.set i none) G2, ct := fun e2 G2 => De.ct (e2.set i none) G2, ex := fun _ _ _ _ => False }
def asEnds (m : Nat) (isx hit : Nat → Bool) (i : Nat) (ts : Addr → Addr → Nat → TSd) (De : DEnds) : DEnds := { De with ex := fun c ds env' G' => (c < m ∧ isx c = true) ∧ (hit c = true → ds ≠ [] ∧ ∀ a dd, ts a dd c (suEnds i De) (env'.set i (some (.exc a dd c ds))) G') ∧
    (hit c = false → De.ex c ds env' G') }
def wTryAs (m : Nat) (isx hit : Nat → Bool) (i : Nat) (tb : TSd) (ts : Addr → Addr → Nat → TSd) : TSd := fun De env G => tb (asEnds m isx hit i ts De) env G
section
variable {T : Tb} {X : Cx} {W : WX} {m i h : Nat} {isx : Nat → Bool} {sub : Nat → Nat → Bool} {x n : Str} {body suite : List Stmt} {b₀ : Stmt} {np pos pos' : Pos} {tb : TSd} {ts : Addr → Addr → Nat → TSd}
theorem q_tryAs (hs : X.stack = X.env :: X.outer) (hf : X.env.frame = some X.env.locals) (hN : X.N.Nodup) (hi : X.N[i]? = some n) (hln : X.env.kindOf n = some .local) (hc : Names X x (.ref (T.cls h))) (tk : Takes X W)
    (hK : X.K = T.K) (hx : XHit T m isx sub h)
    (hb : ∀ (W' : WX) (pn : List (Addr × Obj)) (xe : Value → Shared → Prop), Takes (X.tr pn xe) W' → QSs T (X.tr pn xe) W' body tb)
    (hsu : ∀ (a : Addr) (oe : Obj) (c : Nat) (dd : Addr) (pn : List (Addr × Obj)), c < m → isx c = true → Zc (.ref (T.cls c)) (some dd) oe → (∃ vs, oe.data = .fields vs) → QSs T (X.suite a ((a, oe) :: pn)) (fun _ _ _ _ => False) (b₀ :: suite) (ts a dd c)) :
    QS T X W (.Try body [.ExceptHandler (some (.Name x np)) (some n) (b₀ :: suite) pos'] [] [] pos) (wTryAs m isx (fun c => sub c h) i tb ts) := by
  refine QS.of (ps_try_as (tb := fun W' => liftS T W' tb) (ts := fun a cls d => fun Dv σ H => ∃ c dd, cls = .ref (T.cls c) ∧ d = some dd ∧ (c < m ∧ isx c = true) ∧ liftS T (fun _ _ _ _ => False) (ts a dd c) Dv σ H) hs hf hN hi hln hc tk (fun W' pn xe tk' _ => (hb W' pn xe tk').pss)
    (fun a oe cls d pn hz hf' => ⟨fun pins s σ H D I ⟨c, dd, e1, e2, ⟨h1, h2⟩, q⟩ => ?_⟩)) fun env G De Dv σ H rs rh ex en q => ?_
  · subst e1 e2
    exact (hsu a oe c dd pn h1 h2 hz hf').pss.run pins s σ H D I q
  · refine ⟨env, G, asEnds m isx (fun c => sub c h) i ts De, rs, rh, ?_, ⟨en.nx, en.rt, en.bk, en.ct⟩, q⟩
    intro c ds env' G' cl dx σ' H' ⟨hm, h1, h2⟩ rx rs' rh' k
    have e : cl = .ref (T.cls c) := rx.1
    subst e
    refine ⟨sub c h, by rw [hK]; exact hx c hm.1 hm.2, fun hh a ha => ?_, fun hh => ex c ds env' G' _ dx σ' H' (h2 hh) rx rs' rh' k⟩
    obtain ⟨hne, q'⟩ := h1 hh
    obtain ⟨_, e0 | ⟨dd, xs, rfl, g, hd, hl, rr⟩⟩ := rx
    · exact absurd e0.1 hne
    · refine ⟨c, dd, rfl, rfl, hm, _, G', suEnds i De, rs'.set i (.exc g hd hl rr), rh', fun _ _ _ _ _ _ _ _ z => z.elim, ⟨?_, ?_, ?_, ?_⟩, q' a dd⟩
      · exact fun e2 G2 σ2 H2 r2 rh2 k2 q2 => en.nx _ _ _ _ (r2.unset i) rh2 (k.trans k2) q2
      · exact fun d v G2 H2 r2 rh2 k2 q2 => en.rt _ _ _ _ r2 rh2 (k.trans k2) q2
      · exact fun e2 G2 σ2 H2 r2 rh2 k2 q2 => en.bk _ _ _ _ (r2.unset i) rh2 (k.trans k2) q2
      · exact fun e2 G2 σ2 H2 r2 rh2 k2 q2 => en.ct _ _ _ _ (r2.unset i) rh2 (k.trans k2) q2
end
/-! ### within the suite: e.f, isinstance(e, C) -/
def wXf (fld : Nat → Str) (a dd : Addr) (c : Nat) (f : Str) (te : TEd) : TEd := fun env G Q Ex => te env G (fun x G1 => ∃ d, x = .exc a dd c [d] ∧ fld c = f ∧ Q d G1) Ex
def wIsE (sub : Nat → Nat → Bool) (a dd : Addr) (c c' : Nat) (te : TEd) : TEd := fun env G Q Ex => te env G (fun x G1 => (∃ ds, x = .exc a dd c ds) ∧ Q (.bl (sub c c')) G1) Ex
section
variable {T : Tb} {X : Cx} {W : WX} {m : Nat} {isx : Nat → Bool} {fld : Nat → Str} {sub : Nat → Nat → Bool} {a dd : Addr} {c c' : Nat} {oe : Obj} {pn : List (Addr × Obj)} {e : Expr} {te : TEd} {f x : Str} {p p2 pos : Pos}
theorem q_xf (hK : X.K = T.K) (kx : XKit T m isx fld sub) (h1 : c < m) (h2 : isx c = true) (hz : Zc (.ref (T.cls c)) (some dd) oe) (hf : ∃ vs, oe.data = .fields vs) (he : QE T (X.suite a ((a, oe) :: pn)) W e te) (hb : attributeBase e f X.env (eval e X.env) = eval e X.env := by rfl) :
    QE T (X.suite a ((a, oe) :: pn)) W (.Attribute e f pos) (wXf fld a dd c f te) := by
  by_cases hc : fld c = f
  · have ok' := kx.ok c h1 h2
    have fl := kx.fl c h1 h2
    rw [hc] at ok' fl
    rw [← hK] at ok'
    refine QE.of (pe_xf ok'.xf ok'.no hz hf he.pe hb) fun env G σ H Q Ex Qv rs rh ex q k => intoE rs rh ex q fun d v G1 H1 rd rh1 k1 ⟨d', e1, _, q1⟩ => ?_
    subst e1
    cases rd with
    | exc g hx hl rr =>
      rw [fl] at hx hl
      cases rr with
      | cons r1 r2 =>
        cases r2
        exact ⟨rfl, rfl, dd, _, _, rfl, hx, by simp [List.lookup], k _ _ _ _ r1 rh1 k1 q1⟩
  · refine ⟨⟨fun pins s σ H Qv I ⟨env, G, Q, Ex, rs, rh, ex, q, kq⟩ => ?_⟩⟩
    refine attr_of hb (thn (he.pe.run pins s σ H _ I (intoE (Qv := fun _ _ => False) rs rh ex q fun d v G1 H1 rd rh1 k1 ⟨_, _, z, _⟩ => absurd z hc)) fun u s1 ⟨_, _, _, _, z⟩ => z.elim)
/-- isinstance(e, c'), told by the class's name -/
theorem q_isE (hK : X.K = T.K) (kx : XKit T m isx fld sub) (h1 : c < m) (h2 : isx c = true) (hc' : c' < m) (hz : Zc (.ref (T.cls c)) (some dd) oe) (hf : ∃ vs, oe.data = .fields vs) (hm : X.mg "isinstance" = none) (hx : X.mg x = some (.ref (T.cls c')))
    (he : QE T (X.suite a ((a, oe) :: pn)) W e te) (hg : Gl (X.suite a ((a, oe) :: pn)) "isinstance" := by rfl) (hgx : Gl (X.suite a ((a, oe) :: pn)) x := by rfl) (hd : (x == ("__debug__" : Str)) = false := by decide)
    (hs1 : starEach [e, .Name x p2] X.env = (false, eval e X.env) :: starEach [.Name x p2] X.env := by rfl) (hs2 : starEach [.Name x p2] X.env = (false, eval (.Name x p2) X.env) :: starEach [] X.env := by rfl)
    (hpl : (backTo pos (starEach [.Name x p2] X.env)).any (·.1) = false := by rfl) : QE T (X.suite a ((a, oe) :: pn)) W (.Call (.Name "isinstance" p) [e, .Name x p2] [] pos) (wIsE sub a dd c c' te) := by
  have ok := kx.ok c h1 h2
  have hsub := kx.sub c h1 h2 c' hc'
  have call : CallR (X.suite a ((a, oe) :: pn)) (.builtin "isinstance") (fun xs H Q => ∃ (ds : List D) (xs' : List V), xs = [.ref a, .ref (T.cls c')] ∧ H dd = some (.xd ((T.flds c).zip xs')) ∧ Q (.bl (sub c c')) H) := by
    intro pins s σ H xs us Q I r h
    obtain ⟨ds, xs', rfl, hx, q⟩ := h
    cases r with
    | cons rx rr =>
      cases rr with
      | cons rt rr =>
        cases rr
        cases rx
        cases rt
        obtain ⟨hget, _⟩ := I.pin (a, oe) (List.mem_append.mpr (.inl List.mem_cons_self))
        obtain ⟨vs, hv⟩ := hf
        have hx' : ObjOk X.prog X.w H s.heap dd (.xd ((T.flds c).zip xs')) := I.hok dd _ hx
        obtain ⟨mA, hns, hr⟩ := hx'
        obtain ⟨od, ho, hl⟩ := lookIn_ns hns
        have J : PySem.W.InstAt s.heap a oe (T.cls c) (some od) := ⟨hget, hz.1, by unfold PySem.W.notCls; rw [hv] <;> rfl, by rw [hz.2]; exact ho⟩
        have KI : T.K.In s.heap := hK ▸ I.kIn
        have hcl : (PySem.W.clsIn T.K (T.cls c)).isSome = true := by
          obtain ⟨nm, q0, N, bs, bm, sn, sub0, ab, col, d0, k0, k1, k2, k3, k5, hC, _⟩ := ok.oex.cls
          unfold PySem.W.clsIn
          rw [hC] <;> rfl
        exact PySem.W.kia_one (PySem.W.kitx_exc hcl ok.xf.ga ok.xf.gg ok.xf.exC ok.ca ok.cn ok.ct ok.cm) KI J hsub (fun z => nomatch z) fun tk => ⟨.bl (sub c c'), H, I.kept (t' := tk) fun _ _ z => z, rfl, q⟩
  refine QE.of (pe_callB call hg hm rfl (pa_cons he.pe (pa_cons (pe_glob (v := .ref (T.cls c')) hgx hx rfl hd) pa_nil hs2) hs1) (by decide) (by decide) hs1 hpl) fun env G σ H Q Ex Qv rs rh ex q k => intoE rs rh ex q fun d v G1 H1 rd rh1 k1 ⟨⟨ds, e1⟩, q1⟩ => ?_
  subst e1
  cases rd with
  | exc g hxd hl rr => exact ⟨ds, _, rfl, hxd, k _ _ G1 H1 (.bl _) rh1 k1 q1⟩
end
end DL
set_option Elab.async false
set_option linter.all false
set_option maxRecDepth 100000
set_option maxHeartbeats 4000000
/-! sorted(x), x a list of data that can be compared -/
namespace DL
open PySem PySem.Spec PyProof.Rows L2
def sortedD (ds : List D) : List D := ds.mergeSort (PySem.W.dataLe false pyR)
/-- may be sorted -/
def SortOk (ds : List D) : Prop := (∀ d ∈ ds, showD d = true ∧ (pyR d).depth ≤ 60) ∧ PySem.W.AllAlike (ds.map pyR) ∧ PySem.W.Sortable (ds.map pyR)
section
variable {T : Tb} {X : Cx} {W : WX}
theorem each_vals {T : Tb} {X : Cx} {pins : List (Addr × Obj)} {σ : List (Option V)} {G : GH} {H : Hp} {s : Shared} (hK : X.K = T.K) (I : Inv X pins σ H s) : ∀ {ds : List D} {vs : List V} {us : List Value}, RVs T G H ds vs → Vals vs us → (∀ d ∈ ds, showD d = true) →
    PySem.W.EachIs (fun u d => ∃ v, RV T G H d v ∧ RelV v u) us ds ∧ PySem.W.EachIs (fun u d => ∃ as, Reads s.heap u (pyR d) as) us ds
  | [], _, _, .nil, r, _ => by cases r; exact ⟨.nil, .nil⟩
  | d :: ds, _, _, .cons a t, r, h => by
    cases r with
    | cons r1 r2 =>
      obtain ⟨h1, h2⟩ := each_vals hK I t r2 fun d m => h d (List.mem_cons_of_mem _ m)
      obtain ⟨as, rd, _⟩ := show_reads hK I a r1 (h d List.mem_cons_self)
      exact ⟨.cons ⟨_, a, r1⟩ h1, .cons ⟨as, rd⟩ h2⟩
theorem vals_each {T : Tb} {G : GH} {H : Hp} : ∀ {ds : List D} {us : List Value}, PySem.W.EachIs (fun u d => ∃ v, RV T G H d v ∧ RelV v u) us ds → ∃ vs, RVs T G H ds vs ∧ Vals vs us
  | _, _, .nil => ⟨[], .nil, .nil⟩
  | _, _, .cons ⟨v, a, r⟩ t => by
    obtain ⟨vs, h1, h2⟩ := vals_each t
    exact ⟨v :: vs, .cons a h1, .cons r h2⟩
abbrev rSortD (T : Tb) : List V → Hp → VK → Prop := fun xs H Q => ∃ p ys G ds, xs = [.ref p] ∧ SqL T.K H p ys ∧ RVs T G H ds ys ∧ SortOk ds ∧ ds.length ≤ sizeLine ∧ ∀ l zs, H l = none → RVs T G H (sortedD ds) zs → Q (.ref l) (upd H l (.lst zs))
theorem call_sortD (hK : X.K = T.K) (hu : X.A.units + 64 < cLine) : CallR X (.builtin "sorted") (rSortD T) := by
  intro pins s σ H xs us Q I r h
  obtain ⟨p, ys, G, ds, rfl, hs, rds, ⟨h1, h2, h3⟩, hL, q⟩ := h
  obtain ⟨u, rfl, ru⟩ := vals1 r
  obtain rfl : u = Value.ref p := ru
  obtain ⟨its, rv, hl, hz⟩ := I.list (by rw [hK]; exact hs)
  obtain ⟨e1, e2⟩ := each_vals hK I rds rv fun d m => (h1 d m).1
  refine PySem.W.sorted_data (enc := pyR) hl.isList e1 e2 h2 h3 hL (fun d m => by have := (h1 d m).2; omega) fun out hlen eo => ?_
  obtain ⟨zs, r1, r2⟩ := vals_each eo
  obtain ⟨n, hn⟩ := sortedAll_at s.heap its out.toArray
  have fr : H (s.heap.objs.size + 1) = none := I.hok.fresh (Nat.le_succ _)
  refine ⟨.ref _, upd H (s.heap.objs.size + 1) (.lst zs), I.laid (t' := s.toks) (fun b o z => sortedAll_old z) (Nat.le_succ _) ⟨?_, out, n, r2, hn⟩, rfl, q _ zs fr r1⟩
  have := r1.length
  rw [← this, List.length_mergeSort]
  exact hL
/-- the new list may change -/
def sortO : OL := fun ds G Q => match ds with
  | [x] => ∃ xs, seqD G x = some xs ∧ (∀ ys, x ≠ .tup ys) ∧ SortOk xs ∧ xs.length ≤ sizeLine ∧ ∀ p, G p = none → Q (.ref p) (gset G p (.lst (sortedD xs)))
  | _ => False
/-- the new list is held to be fixed -/
def sortFO : OL := fun ds G Q => match ds with
  | [x] => ∃ xs, seqD G x = some xs ∧ (∀ ys, x ≠ .tup ys) ∧ SortOk xs ∧ xs.length ≤ sizeLine ∧ Q (.lst (sortedD xs)) G
  | _ => False
theorem seqL_at {G : GH} {H : Hp} {x : D} {v : V} {xs : List D} (rh : RH T G H) (r : RV T G H x v) (h : seqD G x = some xs) (ht : ∀ ys, x ≠ .tup ys) : ∃ a vs, v = .ref a ∧ SqL T.K H a vs ∧ RVs T G H xs vs := by
  cases r with
  | tup hx l r => exact absurd rfl (ht _)
  | lst g hx l r => cases h; exact ⟨_, _, rfl, SqL.of hx, r⟩
  | frl hx l r => cases h; exact ⟨_, _, rfl, hx.sq, r⟩
  | ref a =>
    have g := lstAt_some (show lstAt (G a) = some xs from h)
    obtain ⟨vs, hx, _, r⟩ := rh a _ g
    exact ⟨_, _, rfl, SqL.of hx, r⟩
  | _ => cases h
theorem sortedD_len (ds : List D) : (sortedD ds).length = ds.length := List.length_mergeSort _
theorem ci_sort : CallI T (rSortD T) sortO := by
  intro G H ds vs Q Qv rh r q k
  rcases r with _ | ⟨rx, _ | ⟨_, _⟩⟩
  · exact False.elim q
  · obtain ⟨xs, e, ht, ok, l, q⟩ := q
    obtain ⟨a, ys, rfl, hs, r⟩ := seqL_at rh rx e ht
    exact ⟨a, ys, G, xs, rfl, hs, r, ok, l, fun p zs np rz => k _ _ _ _ (.ref p) (rh.newG (d := .lst (sortedD xs)) np ⟨zs, upd_same, by rw [sortedD_len]; exact l, rz.keep (Keep.newG np)⟩) (Keep.newG np) (q p (rh.fresh np))⟩
  · exact False.elim q
theorem ci_sortF : CallI T (rSortD T) sortFO := by
  intro G H ds vs Q Qv rh r q k
  rcases r with _ | ⟨rx, _ | ⟨_, _⟩⟩
  · exact False.elim q
  · obtain ⟨xs, e, ht, ok, l, q⟩ := q
    obtain ⟨a, ys, rfl, hs, r⟩ := seqL_at rh rx e ht
    exact ⟨a, ys, G, xs, rfl, hs, r, ok, l, fun p zs np rz => k _ _ _ _ (.lst (rh.fresh np) upd_same (by rw [sortedD_len]; exact l) (rz.keep (Keep.new np))) (rh.new np) (Keep.new np) q⟩
  · exact False.elim q
end
section
variable {T : Tb} {X : Cx} {W : WX} {e : Expr} {es : List Expr} {u : TAd} {p pos : Pos}
theorem q_sort (hK : X.K = T.K) (hu : X.A.units + 64 < cLine) (hg : Gl X "sorted") (hm : X.mg "sorted" = none) (ha : QA T X W (e :: es) u) (he : starEach (e :: es) X.env = (false, eval e X.env) :: starEach es X.env := by rfl) (hpl : (backTo pos (starEach es X.env)).any (·.1) = false := by rfl) :
    QE T X W (.Call (.Name "sorted" p) (e :: es) [] pos) (wCall sortO u) := q_callB (call_sortD hK hu) ci_sort hg hm (by decide +kernel) ha (by decide) (by decide) he hpl
theorem q_sortF (hK : X.K = T.K) (hu : X.A.units + 64 < cLine) (hg : Gl X "sorted") (hm : X.mg "sorted" = none) (ha : QA T X W (e :: es) u) (he : starEach (e :: es) X.env = (false, eval e X.env) :: starEach es X.env := by rfl) (hpl : (backTo pos (starEach es X.env)).any (·.1) = false := by rfl) :
    QE T X W (.Call (.Name "sorted" p) (e :: es) [] pos) (wCall sortFO u) := q_callB (call_sortD hK hu) ci_sortF hg hm (by decide +kernel) ha (by decide) (by decide) he hpl
end
end DL
set_option Elab.async false
set_option linter.all false
set_option maxRecDepth 100000
set_option maxHeartbeats 4000000
/-! xs.pop(), xs.insert(i, y) -/
namespace DL
open PySem PySem.Spec PyProof.Rows L2
section
variable {T : Tb} {X : Cx} {W : WX} {e e2 o : Expr} {te to : TEd} {u : TAd} {pos apos : Pos}
def popO : OML := fun a xs ds G Q => ds = [] ∧ ∃ d, xs[xs.length - 1]? = some d ∧ Q d (gset G a (.lst xs.dropLast))
theorem mi_pop : MlI T rPop popO := by
  intro G H a xs ds vs Q Qv rh g r ⟨ed, d, hd, q⟩ k
  subst ed
  cases r
  obtain ⟨ys, hy, l, rr⟩ := rh a _ g
  obtain ⟨v, hv, rv⟩ := rr.get hd
  have kp : Keep G H (gset G a (.lst xs.dropLast)) (upd H a (.lst ys.dropLast)) := Keep.put g
  have rd : RVs T G H xs.dropLast ys.dropLast := by
    rw [List.dropLast_eq_take, List.dropLast_eq_take, rr.length]
    exact rr.take _
  rw [rr.length] at hv
  exact ⟨a, ys, v, rfl, rfl, hy, hv, k d v _ _ (rv.keep kp) (rh.put (d := .lst xs.dropLast) g ⟨ys.dropLast, upd_same, by rw [List.length_dropLast]; omega, rd.keep kp⟩) kp q⟩
def insertO : OML := fun a xs ds G Q => ∃ (i : Int) (d : D), ds = [.int i, d] ∧ xs.length < sizeLine ∧ 0 ≤ i ∧ i < 2 ^ 63 ∧ Q .non (gset G a (.lst (xs.take i.toNat ++ [d] ++ xs.drop i.toNat)))
abbrev rInsert : V → List V → Hp → VK → Prop := fun x vs H Q => ∃ (l : Addr) (xs : List V) (i : Int) (y : V), x = .ref l ∧ vs = [.int i, y] ∧ H l = some (.lst xs) ∧ xs.length < sizeLine ∧ 0 ≤ i ∧ i < 2 ^ 63 ∧ Q .non (upd H l (.lst (xs.take i.toNat ++ [y] ++ xs.drop i.toNat)))
theorem mi_insert : MlI T rInsert insertO := by
  intro G H a xs ds vs Q Qv rh g r ⟨i, d, ed, hz, h0, h1, q⟩ k
  subst ed
  rcases r with _ | ⟨ri, _ | ⟨rd, _ | ⟨_, _⟩⟩⟩
  cases ri
  rename_i v
  obtain ⟨ys, hy, l, rr⟩ := rh a _ g
  have kp : Keep G H (gset G a (.lst (xs.take i.toNat ++ [d] ++ xs.drop i.toNat))) (upd H a (.lst (ys.take i.toNat ++ [v] ++ ys.drop i.toNat))) := Keep.put g
  have r2 : RVs T G H (xs.take i.toNat ++ [d] ++ xs.drop i.toNat) (ys.take i.toNat ++ [v] ++ ys.drop i.toNat) := ((rr.take _).append (.cons rd .nil)).append (rr.drop _)
  refine ⟨a, ys, i, v, rfl, rfl, hy, by rw [← rr.length]; exact hz, h0, h1, k _ _ _ _ .non (rh.put (d := .lst (xs.take i.toNat ++ [d] ++ xs.drop i.toNat)) g ⟨_, upd_same, ?_, r2.keep kp⟩) kp q⟩
  simp only [List.length_append, List.length_take, List.length_drop, List.length_singleton]
  omega
theorem q_pop (ho : QE T X W o to) (hbase : attributeBase o "pop" X.env (eval o X.env) = eval o X.env := by rfl) (hline : (apos.endLine == pos.line) = true := by rfl) :
    QE T X W (.Call (.Attribute o "pop" apos) [] [] pos) (wML0 popO to) :=
  q_ml0 mi_pop (pe_bm0 PySem.F.plainAttrs_list PySem.F.slot_list_pop PySem.F.type_list_pop mt_pop ho.pe hbase hline)
theorem q_insert (ho : QE T X W o to) (ha : QA T X W [e, e2] u) (hbase : attributeBase o "insert" X.env (eval o X.env) = eval o X.env := by rfl)
    (hfew : ((backTo pos (starEach [e, e2] X.env)).all (fun x => !x.1) && (backToKw pos (keywordEach [] X.env)).all (fun x => x.1.isSome) && decide (([e, e2] : List Expr).length + ([] : List Keyword).length + (if ([] : List Keyword).isEmpty then 0 else 1) < 30)) = true := by rfl)
    (hline : (apos.endLine == pos.line) = true := by rfl) (hs : starEach [e, e2] X.env = (false, eval e X.env) :: starEach [e2] X.env := by rfl) (hplain : (backTo pos (starEach [e2] X.env)).any (·.1) = false := by rfl) :
    QE T X W (.Call (.Attribute o "insert" apos) [e, e2] [] pos) (wML insertO to u) :=
  q_ml mi_insert (pe_bm PySem.F.plainAttrs_list PySem.F.slot_list_insert PySem.F.type_list_insert mt_insert ho.pe ha.pa hbase hfew hline hs hplain)
end
end DL
set_option Elab.async false
set_option linter.all false
set_option maxRecDepth 100000
set_option maxHeartbeats 4000000
/-! o[i], p[j] = x, y; count of truths -/
namespace DL
open PySem PySem.Spec PyProof.Rows L2
section
variable {T : Tb} {X : Cx} {W : WX} {e o i tg : Expr} {es : List Expr} {te to ti : TEd} {u : TAd} {pos apos pos' : Pos} {g : TGd} {us : TGsd}
def gdSub (to ti : TEd) : TGd := fun d env G Q Ex => to env G (fun o G2 => ti env G2 (fun i G3 => setO o i d G3 (fun G4 => Q env G4)) Ex) Ex
theorem qg_sub (ho : QE T X W o to) (hi : QE T X W i ti)
    (ha : ∀ v, assign (.Subscript o i pos') X.env v = (do let ov ← holding [v] (eval o X.env); let iv ← holding [v, ov] (eval i X.env); standAt pos'; holding [v, ov, iv] (setItem ov iv v); release [v, ov, iv] []) := by intro _; rfl) :
    QG T X W (.Subscript o i pos') (gdSub to ti) :=
  ⟨PG.imp (pg_sub ho.pe hi.pe set_list ha) fun v σ H Qg ⟨d, env, G, Q, Ex, rd, rs, rh, ex, q, k⟩ =>
    intoE rs rh ex q fun o' ov G2 H2 ro rh2 k2 q2 => intoE (rs.keep k2) rh2 (ex.keep k2) q2 fun i' iv G3 H3 ri rh3 k3 q3 =>
      set_in rh3 (ro.keep k3) ri ((rd.keep k2).keep k3) q3 fun G4 H4 rh4 k4 q4 => k _ _ _ _ (rs.keep ((k2.trans k3).trans k4)) rh4 ((k2.trans k3).trans k4) q4⟩
def gdCons (g : TGd) (u : TGsd) : TGsd := fun ds env G Q _ => ∃ d r, ds = d :: r ∧ g d env G (fun env' G' => u r env' G' Q (fun _ _ _ => False)) (fun _ _ _ => False)
theorem qgs_cons (h1 : QG T X (fun _ _ _ _ => False) tg g) (h2 : QGs T X (fun _ _ _ _ => False) es us) (hs : (assignEach (tg :: es) X.env).map (·.2) = assign tg X.env :: (assignEach es X.env).map (·.2) := by rfl) : QGs T X W (tg :: es) (gdCons g us) :=
  ⟨PGs.imp (pgs_cons h1.pg h2.pgs hs) fun vs σ H Qg ⟨ds, env, G, Q, Ex, rd, rs, rh, ex, ⟨d, r, e, q⟩, k⟩ => by
    subst e
    cases rd with
    | cons r1 r2 =>
      refine ⟨_, _, rfl, d, env, G, _, fun _ _ _ => False, r1, rs, rh, fun _ _ _ _ _ _ z => z.elim, q, fun env' G' σ' H' rs' rh' k' q' => ?_⟩
      exact ⟨r, env', G', Q, fun _ _ _ => False, r2.keep k', rs', rh', fun _ _ _ _ _ _ z => z.elim, q', fun e2 G2 σ2 H2 a b c d => k _ _ _ _ a b (k'.trans c) d⟩⟩
/-! xs.count(True), xs a list of truths -/
def cntB (b : Bool) (bs : List Bool) : Int := (bs.count b : Nat)
abbrev rCntB (K : PySem.W.Frag) : V → List V → Hp → VK → Prop := fun x xs H Q => ∃ (p : Addr) (bs : List Bool) (b : Bool), x = .ref p ∧ xs = [.bl b] ∧ SqL K H p (bs.map V.bl) ∧ Q (.int (cntB b bs)) H
def sameB (b : Bool) : Value → Bool
  | .bool c => c == b
  | _ => false
theorem bools_at : ∀ {bs : List Bool} {its : List Value}, Vals (bs.map V.bl) its → (∀ y ∈ its, ∃ c, y = .bool c) ∧ ∀ b, its.countP (sameB b) = bs.count b
  | [], _, r => by cases r; exact ⟨fun y h => absurd h (by simp), fun b => rfl⟩
  | c :: bs, _, r => by
    cases r with
    | cons r1 r2 =>
      cases r1
      obtain ⟨h1, h2⟩ := bools_at r2
      refine ⟨fun y hy => ?_, fun b => ?_⟩
      · rcases List.mem_cons.mp hy with rfl | hy
        · exact ⟨_, rfl⟩
        · exact h1 y hy
      · rw [List.countP_cons, List.count_cons, h2]; rfl
theorem mt_cntB : MtR X "list.count" (rCntB X.K) := by
  intro pins s σ H x xs v us Q I rx rxs h
  obtain ⟨p, bs, b, rfl, rfl, hs, q⟩ := h
  cases rx
  obtain ⟨w, rfl, rw_⟩ := rxs.one
  cases rw_
  obtain ⟨its, rv, ⟨⟨cls, dd, data, sl⟩, n, ho, hc, hdn, hd⟩, hlen⟩ := I.list hs
  simp only at hc hd
  subst hc hd
  obtain ⟨h1, h2⟩ := bools_at rv
  refine call_meets PySem.F.slot_list_count ⟨_, ho, rfl⟩ PySem.F.entry_list_count (PySem.F.args_list_count_2 _ _) (SeqAt.list_countAt p its.toArray n dd sl (.bool b) (sameB b)) ⟨ho, fun y hy => ?_, ?_⟩
  · obtain ⟨c, rfl⟩ := h1 y (by simpa using hy)
    exact SeqAt.EqAt.bool_bool c b
  · have e : its.toArray.toList.countP (sameB b) = bs.count b := h2 b
    rw [e]
    exact ⟨.int (cntB b bs), H, I.tok _, ⟨_, rfl⟩, q⟩
def wCntB (to : TEd) (u : TAd) : TEd := fun env G Q Ex => to env G (fun x G1 => (∃ xs0, seqD G1 x = some xs0 ∧ ∀ ys, x ≠ .tup ys) ∧ u env G1 (fun ds G2 => ∃ (bs : List Bool) (b : Bool), seqD G2 x = some (bs.map D.bl) ∧ ds = [.bl b] ∧ Q (.int (cntB b bs)) G2) Ex) Ex
theorem blsV_rv {G : GH} {H : Hp} : ∀ {bs : List Bool} {vs : List V}, RVs T G H (bs.map D.bl) vs → vs = bs.map V.bl
  | [], _, r => by cases r; rfl
  | b :: bs, _, r => by
    cases r with
    | cons r1 r2 => cases r1; rw [blsV_rv r2]; rfl
theorem q_cntB (hK : X.K = T.K) (ho : QE T X W o to) (ha : QA T X W [e] u) (hbase : attributeBase o "count" X.env (eval o X.env) = eval o X.env := by rfl)
    (hfew : ((backTo pos (starEach [e] X.env)).all (fun x => !x.1) && (backToKw pos (keywordEach [] X.env)).all (fun x => x.1.isSome) && decide (([e] : List Expr).length + ([] : List Keyword).length + (if ([] : List Keyword).isEmpty then 0 else 1) < 30)) = true := by rfl)
    (hline : (apos.endLine == pos.line) = true := by rfl) (hs : starEach [e] X.env = (false, eval e X.env) :: starEach [] X.env := by rfl) (hplain : (backTo pos (starEach [] X.env)).any (·.1) = false := by rfl) :
    QE T X W (.Call (.Attribute o "count" apos) [e] [] pos) (wCntB to u) :=
  QE.of (pe_bm PySem.F.plainAttrs_list PySem.F.slot_list_count PySem.F.type_list_count mt_cntB ho.pe ha.pa hbase hfew hline hs hplain) fun env G σ H Q Ex Qv rs rh ex q k => intoE rs rh ex q fun x v G1 H1 rx rh1 k1 ⟨⟨xs0, e0, ht⟩, q1⟩ => by
    obtain ⟨a, vs0, rfl, hs0, _⟩ := seqL_at rh1 rx e0 ht
    rw [hK]
    refine ⟨.inl ⟨rfl, vs0, hs0⟩, intoA (rs.keep k1) rh1 (ex.keep k1) q1 fun ds vs G2 H2 rds rh2 k2 ⟨bs, b, e1, e2, q2⟩ => ?_⟩
    subst e2
    obtain ⟨a', vs1, ea, hs1, r1⟩ := seqL_at rh2 (rx.keep k2) e1 ht
    cases ea
    have := blsV_rv r1
    subst this
    rcases rds with _ | ⟨rb, _ | ⟨_, _⟩⟩
    cases rb
    exact ⟨a, bs, b, rfl, rfl, hs1, k _ _ G2 H2 (.int _) rh2 (k1.trans k2) q2⟩
end
end DL
set_option Elab.async false
set_option linter.all false
set_option maxRecDepth 100000
set_option maxHeartbeats 4000000
/-! isinstance(e, (C1, C2, ..)) within the suite -/
namespace DL
open PySem PySem.Spec PyProof.Rows L2
/-- the names of own classes, from the left -/
structure OwnsOk (T : Tb) (X : Cx) (es : List Expr) (cs : List Nat) : Prop where
  pa : PA X es (fun _ H Q => Q (cs.map fun c => V.ref (T.cls c)) H)
section
variable {T : Tb} {X : Cx} {W : WX} {es : List Expr} {cs : List Nat} {c : Nat} {x : Str} {pos : Pos}
theorem owns_nil : OwnsOk T X [] [] := ⟨pa_nil⟩
theorem owns_cons (hm : X.mg x = some (.ref (T.cls c))) (h : OwnsOk T X es cs) (hg : Gl X x := by rfl) (hd : (x == ("__debug__" : Str)) = false := by decide)
    (hs : starEach (.Name x pos :: es) X.env = (false, eval (.Name x pos) X.env) :: starEach es X.env := by rfl) : OwnsOk T X (.Name x pos :: es) (c :: cs) :=
  ⟨PA.imp (pa_cons (pe_glob (v := .ref (T.cls c)) hg hm rfl hd) h.pa hs) fun σ H Q q => q⟩
end
def wIsET (sub : Nat → Nat → Bool) (a dd : Addr) (c : Nat) (cs : List Nat) (te : TEd) : TEd := fun env G Q Ex => te env G (fun x G1 => (∃ ds, x = .exc a dd c ds) ∧ Q (.bl (cs.any (sub c))) G1) Ex
theorem refs_of {f : Nat → Addr} : ∀ {cs : List Nat} {us : List Value}, Vals (cs.map fun c => V.ref (f c)) us → us = cs.map fun c => Value.ref (f c)
  | [], _, r => by cases r; rfl
  | c :: cs, _, r => by
    cases r with
    | cons r1 r2 => cases r1; rw [refs_of r2]; rfl
section
variable {T : Tb} {X : Cx} {W : WX} {m : Nat} {isx : Nat → Bool} {fld : Nat → Str} {sub : Nat → Nat → Bool} {a dd : Addr} {c : Nat} {oe : Obj} {pn : List (Addr × Obj)} {e : Expr} {ts : List Expr} {te : TEd} {p p2 pos : Pos}
theorem kitAny_own (kx : XKit T m isx fld sub) (h1 : c < m) (h2 : isx c = true) : ∀ {cs : List Nat}, (∀ c' ∈ cs, c' < m) → PySem.W.kitAny T.K (.ref (T.cls c)) (cs.map fun c => Value.ref (T.cls c)) = some (cs.any (sub c))
  | [], _ => rfl
  | c' :: cs, h => by
    have q1 := kx.sub c h1 h2 c' (h c' List.mem_cons_self)
    have q2 := kitAny_own kx h1 h2 (cs := cs) fun d hd => h d (List.mem_cons_of_mem _ hd)
    rw [List.map_cons, List.any_cons]
    exact kitAny_cons q1 (fun e => by rw [e, Bool.false_or]; exact q2) fun e => by rw [e, Bool.true_or]
theorem q_isET (cs : List Nat) {x1} (hK : X.K = T.K) (kx : XKit T m isx fld sub) (h1 : c < m) (h2 : isx c = true) (hcs : ∀ c' ∈ cs, c' < m) (hz : cs.length ≤ 100) (hzc : Zc (.ref (T.cls c)) (some dd) oe) (hf : ∃ vs, oe.data = .fields vs) (hm : X.mg "isinstance" = none)
    (he : QE T (X.suite a ((a, oe) :: pn)) W e te) (hts : OwnsOk T (X.suite a ((a, oe) :: pn)) ts cs) (hg : Gl (X.suite a ((a, oe) :: pn)) "isinstance" := by rfl)
    (hs1 : starEach [e, .Tuple ts x1 p2] X.env = (false, eval e X.env) :: starEach [.Tuple ts x1 p2] X.env := by rfl) (hs2 : starEach [.Tuple ts x1 p2] X.env = (false, eval (.Tuple ts x1 p2) X.env) :: starEach [] X.env := by rfl)
    (hpl : (backTo pos (starEach [.Tuple ts x1 p2] X.env)).any (·.1) = false := by rfl) : QE T (X.suite a ((a, oe) :: pn)) W (.Call (.Name "isinstance" p) [e, .Tuple ts x1 p2] [] pos) (wIsET sub a dd c cs te) := by
  have ok := kx.ok c h1 h2
  have call : CallR (X.suite a ((a, oe) :: pn)) (.builtin "isinstance") (fun xs H Q => ∃ (tp : Addr) (xs' : List V), xs = [.ref a, .ref tp] ∧ H tp = some (.tup (cs.map fun c => V.ref (T.cls c))) ∧ H dd = some (.xd ((T.flds c).zip xs')) ∧ Q (.bl (cs.any (sub c))) H) := by
    intro pins s σ H xs us Q I r h
    obtain ⟨tp, xs', rfl, htp, hx, q⟩ := h
    cases r with
    | cons rx rr =>
      cases rr with
      | cons rt rr =>
        cases rr
        cases rx
        cases rt
        obtain ⟨hget, _⟩ := I.pin (a, oe) (List.mem_append.mpr (.inl List.mem_cons_self))
        obtain ⟨vs, hv⟩ := hf
        have hx' : ObjOk X.prog X.w H s.heap dd (.xd ((T.flds c).zip xs')) := I.hok dd _ hx
        obtain ⟨mA, hns, hr⟩ := hx'
        obtain ⟨od, ho, hl⟩ := lookIn_ns hns
        obtain ⟨_, its, rv, o, hot, hc, n, hd⟩ := I.hok tp _ htp
        have hi := refs_of rv
        subst hi
        obtain ⟨oc, odd, oda, osl⟩ := o
        dsimp only at hc hd
        subst hc hd
        have J : PySem.W.InstAt s.heap a oe (T.cls c) (some od) := ⟨hget, hzc.1, by unfold PySem.W.notCls; rw [hv] <;> rfl, by rw [hzc.2]; exact ho⟩
        have KI : T.K.In s.heap := hK ▸ I.kIn
        have hcl : (PySem.W.clsIn T.K (T.cls c)).isSome = true := by
          obtain ⟨nm, q0, N, bs, bm, sn, sub0, ab, col, d0, k0, k1, k2, k3, k5, hC, _⟩ := ok.oex.cls
          unfold PySem.W.clsIn
          rw [hC] <;> rfl
        exact PySem.W.kia_tup (PySem.W.kitx_exc hcl ok.xf.ga ok.xf.gg ok.xf.exC ok.ca ok.cn ok.ct ok.cm) KI J hot (kitAny_own kx h1 h2 hcs) (fun z => nomatch z) fun tk => ⟨.bl _, H, I.kept (t' := tk) fun _ _ z => z, rfl, q⟩
  refine QE.of (pe_callB call hg hm rfl (pa_cons he.pe (pa_cons (pe_tup hts.pa) pa_nil hs2) hs1) (by decide) (by decide) hs1 hpl) fun env G σ H Q Ex Qv rs rh ex q k => intoE rs rh ex q fun d v G1 H1 rd rh1 k1 ⟨⟨ds, e1⟩, q1⟩ => ?_
  subst e1
  cases rd with
  | exc g hxd hl rr =>
    refine ⟨by rw [List.length_map, sizeLine_eq]; omega, fun p np => ?_⟩
    exact ⟨p, _, rfl, upd_same, by rw [upd_ne (ne_of_none hxd np)]; exact hxd, k _ _ G1 _ (.bl _) (rh1.new np) (k1.trans (Keep.new np)) q1⟩
end
end DL
set_option Elab.async false
set_option linter.all false
set_option maxRecDepth 100000
set_option maxHeartbeats 4000000
/-! a slot's list is held to be fixed from here on (if it is one that may change) -/
namespace DL
open PySem PySem.Spec PyProof.Rows L2
def frzEnv (i : Nat) (env : Ev) (G : GH) : Ev × GH := match lk env i with
  | some (.ref a) => match G a with
    | some (.lst ds) => (env.set i (some (.lst ds)), gdel G a)
    | _ => (env, G)
  | _ => (env, G)
def wFrzS (i : Nat) (t : TSd) : TSd := fun De env G => t De (frzEnv i env G).1 (frzEnv i env G).2
theorem frzEnv_ok {T : Tb} {G : GH} {H : Hp} {env : Ev} {σ : List (Option V)} (i : Nat) (rs : RS T G H env σ) (rh : RH T G H) : RS T (frzEnv i env G).2 H (frzEnv i env G).1 σ ∧ RH T (frzEnv i env G).2 H ∧ Keep G H (frzEnv i env G).2 H := by
  unfold frzEnv
  split
  · rename_i a e
    split
    · rename_i ds g
      obtain ⟨xs, hx, l, r⟩ := rh a _ g
      have kp : Keep G H (gdel G a) H := Keep.freeze
      obtain ⟨v, hv, rv⟩ := rs.2 i (.ref a) (lk_eq _ _ _ e)
      cases rv
      refine ⟨?_, rh.freeze a, kp⟩
      have q := (rs.keep kp).set i (d := .lst ds) (v := .ref a) (.lst gdel_same hx l (r.keep kp))
      have es : σ.set i (some (.ref a)) = σ := by
        obtain ⟨hi, e2⟩ := List.getElem?_eq_some_iff.mp hv
        rw [← e2, List.set_getElem_self]
      rw [es] at q
      exact q
    · exact ⟨rs, rh, Keep.refl _ _⟩
  · exact ⟨rs, rh, Keep.refl _ _⟩
section
variable {T : Tb} {X : Cx} {W : WX} {sts : List Stmt} {t : TSd}
theorem qs_frzS (i : Nat) (h : QSs T X W sts t) : QSs T X W sts (wFrzS i t) :=
  ⟨PSs.imp h.pss fun Dv σ H ⟨env, G, De, rs, rh, ex, en, q⟩ =>
    let ⟨a, b, c⟩ := frzEnv_ok i rs rh
    ⟨_, _, De, a, b, ex.keep c, en.keep c, q⟩⟩
end
/-! what it tells -/
section
variable {i : Nat} {t : TSd} {De : DEnds} {env : Ev} {G : GH}
theorem frzS_ref {a : Addr} {ds : List D} (e : lk env i = some (.ref a)) (g : G a = some (.lst ds)) : wFrzS i t De env G = t De (env.set i (some (.lst ds))) (gdel G a) := by
  unfold wFrzS frzEnv; rw [e]; dsimp only; rw [g]
theorem frzS_not (h : ∀ a, lk env i ≠ some (.ref a)) : wFrzS i t De env G = t De env G := by
  unfold wFrzS frzEnv
  split
  · rename_i a e; exact absurd e (h a)
  · rfl
end
end DL
set_option Elab.async false
set_option linter.all false
set_option maxRecDepth 100000
set_option maxHeartbeats 4000000
/-! repr of data with dicts anywhere within -/
namespace DL
open PySem PySem.Spec PyProof.Rows L2
mutual
def wideD : D → Bool
  | .non => true
  | .bl _ => true
  | .int _ => true
  | .str _ => true
  | .tup xs => wideDs xs
  | .tupp xs => wideDs xs
  | .lst xs => wideDs xs
  | .frl xs => wideDs xs
  | .dic _ vs => wideDs vs
  | _ => false
def wideDs : List D → Bool
  | [] => true
  | d :: ds => wideD d && wideDs ds
end
/-- the written part holds sys.modules, a dict -/
def sysB (K : PySem.W.Frag) : Bool := match K.lookup sysModules with
  | some o => o.cls == .type "dict"
  | none => false
theorem sysB_at {K : PySem.W.Frag} (h : sysB K = true) : ∃ o, K.lookup sysModules = some o ∧ o.cls = .type "dict" := by
  unfold sysB at h
  split at h
  · rename_i o e; exact ⟨o, e, beq_iff_eq.mp h⟩
  · cases h
section
variable {T : Tb} {X : Cx} {W : WX} {pins : List (Addr × Obj)} {σ : List (Option V)} {G : GH} {H : Hp} {s : Shared}
theorem sys_free (hK : X.K = T.K) (hS : sysB T.K = true) (I : Inv X pins σ H s) : H sysModules = none := by
  obtain ⟨o, e, _⟩ := sysB_at hS
  rw [← hK] at e
  exact (I.bs _ _ (I.ok.mod.kin _ _ e)).2
mutual
theorem RV.readsW (hK : X.K = T.K) (hS : sysB T.K = true) (I : Inv X pins σ H s) : ∀ {d : D} {v : V} {u : Value}, RV T G H d v → RelV v u → wideD d = true → ∃ as, Reads s.heap u (pyR d) as ∧ sysModules ∉ as
  | _, _, _, .non, r, _ => by cases r; unfold pyR; exact ⟨_, Reads.none, by simp⟩
  | _, _, _, .bl b, r, _ => by cases r; unfold pyR; exact ⟨_, Reads.bool b, by simp⟩
  | _, _, _, .int i, r, _ => by obtain ⟨t, rfl⟩ := r; unfold pyR; exact ⟨_, Reads.int i t, by simp⟩
  | _, _, _, .str x, r, _ => by obtain ⟨t, rfl⟩ := r; unfold pyR; exact ⟨_, Reads.str x t, by simp⟩
  | _, _, _, .ty n, _, h => by unfold wideD at h; cases h
  | _, _, _, .ref a, _, h => by unfold wideD at h; cases h
  | _, _, _, .obj _ _ _ _, _, h => by unfold wideD at h; cases h
  | _, _, _, .exc _ _ _ _, _, h => by unfold wideD at h; cases h
  | _, _, _, @RV.dic _ _ _ a kvs ks xs ds g hx e l rr, r, h => by
    cases r
    obtain ⟨_, hsys, vs, kv, o, es, ep, ho, hex, hd, _, hp, _⟩ := (show ObjOk X.prog X.w H s.heap a (.dK kvs) from I.hok a _ hx)
    subst e
    obtain ⟨h1, h2⟩ := kv_split l kv
    have hl : ks.length = ds.length := by rw [l, rr.length]
    obtain ⟨z1, z2⟩ := zip_maps keyP pyR ks ds hl
    have k1 := pairs_keys (s := s) hp
    unfold wideD at h
    obtain ⟨bs, k2, nb⟩ := RVs.readsW hK hS I rr h2 h
    unfold pyR
    refine ⟨_, Reads.dict (as := []) (bs := bs) ho hex.1 hd ?_ ?_, fun hm => ?_⟩
    · rw [pyRs_map, z1, ← h1]; exact k1
    · rw [pyRs_map, z2, pairs_vals hp, ← pyRs_map]; exact k2
    · rcases List.mem_cons.mp hm with e | hm
      · rw [← e] at hsys; simp at hsys
      · exact nb (by simpa using hm)
  | _, _, _, .tupp g hx hd n _ rr, r, h => by
    cases r
    obtain ⟨its, rv, ⟨o, ho, hc, n, hd⟩, _⟩ := I.tuple (by rw [hK]; exact (FzT.frz (K := T.K) g hx hd n).sq)
    unfold wideD at h
    obtain ⟨as, q, nd⟩ := RVs.readsW hK hS I rr rv h
    unfold pyR
    exact ⟨_, Reads.tuple ho hc hd q, nd⟩
  | _, _, _, .tup hx _ rr, r, h => by
    cases r
    obtain ⟨its, rv, ⟨o, ho, hc, n, hd⟩, _⟩ := I.tuple (by rw [hK]; exact hx.sq)
    unfold wideD at h
    obtain ⟨as, q, nd⟩ := RVs.readsW hK hS I rr rv h
    unfold pyR
    exact ⟨_, Reads.tuple ho hc hd q, nd⟩
  | _, _, _, .lst _ hx _ rr, r, h => by
    cases r
    obtain ⟨its, rv, ⟨o, n, ho, hc, _, hd⟩, _⟩ := I.list (SqL.of hx)
    unfold wideD at h
    obtain ⟨as, q, nd⟩ := RVs.readsW hK hS I rr rv h
    unfold pyR
    refine ⟨_, Reads.list ho hc hd q, fun hm => ?_⟩
    rcases List.mem_cons.mp hm with e | hm
    · rw [← e, sys_free hK hS I] at hx; cases hx
    · exact nd hm
  | _, _, _, .frl hx _ rr, r, h => by
    cases r
    obtain ⟨its, rv, ⟨o, n, ho, hc, _, hd⟩, _⟩ := I.list (by rw [hK]; exact hx.sq)
    unfold wideD at h
    obtain ⟨as, q, nd⟩ := RVs.readsW hK hS I rr rv h
    unfold pyR
    refine ⟨_, Reads.list ho hc hd q, fun hm => ?_⟩
    rcases List.mem_cons.mp hm with e | hm
    · obtain ⟨o', e', hc'⟩ := sysB_at hS
      rw [← hK] at e'
      have e2 := I.kIn _ _ e'
      rw [e, ho] at e2
      cases e2
      rw [hc'] at hc
      exact absurd (Value.type.inj hc) (by decide)
    · exact nd hm
theorem RVs.readsW (hK : X.K = T.K) (hS : sysB T.K = true) (I : Inv X pins σ H s) : ∀ {ds : List D} {vs : List V} {us : List Value}, RVs T G H ds vs → Vals vs us → wideDs ds = true → ∃ as, ReadsAll s.heap us (pyRs ds) as ∧ sysModules ∉ as
  | _, _, _, .nil, r, _ => by cases r; unfold pyRs; exact ⟨_, ReadsAll.nil, by simp⟩
  | _, _, _, .cons a b, r, h => by
    cases r with
    | cons r1 r2 =>
      unfold wideDs at h
      obtain ⟨h1, h2⟩ := Bool.and_eq_true_iff.mp h
      obtain ⟨as, q1, n1⟩ := RV.readsW hK hS I a r1 h1
      obtain ⟨bs, q2, n2⟩ := RVs.readsW hK hS I b r2 h2
      unfold pyRs
      exact ⟨_, ReadsAll.cons q1 q2, fun hm => (List.mem_append.mp hm).elim n1 n2⟩
end
/-- what is shown as data -/
def shownO (d : D) (Q : Str → Prop) : Prop := (pyR d).showable = true ∧ (pyR d).shown.length ≤ sizeLine ∧ (pyR d).depth ≤ 60 ∧ Q (pyR d).shown
def reprWO : OL := fun ds G Q => match ds with
  | [x] => (showD x = true ∨ wideD x = true) ∧ shownO x fun z => Q (.str z) G
  | _ => False
abbrev rReprW (T : Tb) : List V → Hp → VK → Prop := fun vs H Q => ∃ d v G, vs = [v] ∧ RV T G H d v ∧ RH T G H ∧ (showD d = true ∨ wideD d = true) ∧ shownO d fun z => Q (.str z) H
theorem call_reprW (hK : X.K = T.K) (hS : sysB T.K = true) (hg : X.A.guards = some []) (hu : X.A.units + 64 < cLine) : CallR X (.builtin "repr") (rReprW T) := by
  intro pins s σ H xs us Q I r h
  obtain ⟨d, v, G, rfl, rv, rh, hw, h2, h3, h4, q⟩ := h
  by_cases h1 : showD d = true
  · exact call_reprD hK hg hu pins s σ H [v] us Q I r ⟨d, v, G, rfl, rv, rh, h1, h2, h3, h4, q⟩
  · have hw : wideD d = true := hw.resolve_left h1
    obtain ⟨u, rfl, ru⟩ := vals1 r
    have byRef : ∀ a, u = .ref a → wpAny (model X.prog X.w) X.A (call (.builtin "repr") [u]) (EP X pins σ Q) X.xe s := fun a e => by
      obtain ⟨as, rd, hs⟩ := RV.readsW hK hS I rv ru hw
      subst e
      refine repr_of_reads' rd h2 (fun _ => hs) hg (by omega) (fun _ _ e => e) (fun h' u tk kk => ?_) h3
      exact ⟨.str _, H, I.kept kk, ⟨_, rfl⟩, q⟩
    cases rv with
    | tup _ _ _ => exact byRef _ ru
    | tupp _ _ _ _ _ _ => exact byRef _ ru
    | lst _ _ _ _ => exact byRef _ ru
    | frl _ _ _ => exact byRef _ ru
    | dic _ _ _ _ _ => exact byRef _ ru
    | non => exact absurd rfl h1
    | bl _ => exact absurd rfl h1
    | int _ => exact absurd rfl h1
    | str _ => exact absurd rfl h1
    | _ => unfold wideD at hw; cases hw
theorem ci_reprW : CallI T (rReprW T) reprWO := by
  intro G H ds vs Q Qv rh r q k
  rcases r with _ | ⟨rx, _ | ⟨_, _⟩⟩
  · exact False.elim q
  · obtain ⟨hw, h2, h3, h4, q⟩ := q
    exact ⟨_, _, G, rfl, rx, rh, hw, h2, h3, h4, k _ _ G H (.str _) rh (Keep.refl _ _) q⟩
  · exact False.elim q
end
section
variable {T : Tb} {X : Cx} {W : WX} {e : Expr} {es : List Expr} {u : TAd} {p pos : Pos}
theorem q_reprW (hK : X.K = T.K) (hgd : X.A.guards = some []) (hu : X.A.units + 64 < cLine) (hS : sysB T.K = true) (hm : X.mg "repr" = none) (ha : QA T X W (e :: es) u) (hg : Gl X "repr" := by rfl) (he : starEach (e :: es) X.env = (false, eval e X.env) :: starEach es X.env := by rfl) (hpl : (backTo pos (starEach es X.env)).any (·.1) = false := by rfl) :
    QE T X W (.Call (.Name "repr" p) (e :: es) [] pos) (wCall reprWO u) := q_callB (call_reprW hK hS hgd hu) ci_reprW hg hm rfl ha (by decide) (by decide) he hpl
end
end DL
set_option Elab.async false
set_option linter.all false
set_option maxRecDepth 100000
set_option maxHeartbeats 4000000
namespace DL
open PySem PySem.Spec PyProof.Rows L2
/-! facts of the written part, with sys.modules in it -/
def obsSG (n : Nat) (fa : List He.Fa) (fn : List He.DefD) (fb : PySem.W.Frag → Bool) (g : Addr → Option Obj) : AlX := obsX fa fn fb (He.frG g (sysModules :: He.asD g n))
def hookS (n : Nat) (fa : List He.Fa) (fn : List He.DefD) (fb : PySem.W.Frag → Bool) : PySem.W.Hook where
  α := AlX
  obs := fun s => obsSG n fa fn fb s.heap.get?
  val := fun _ => (true, He.valD fn)
  says := fun _ h => ∃ K : PySem.W.Frag, K.In h ∧ He.SaysD fa fn K ∧ fb K = true
  of := fun _ _ e => ⟨_, He.frG_in, congrArg Prod.snd e, congrArg Prod.fst e⟩
  keeps := fun _ _ _ ⟨K, hK, c⟩ k => ⟨K, PySem.W.Frag.In.keeps hK k, c⟩
theorem obsSG_eq {n : Nat} {fa : List He.Fa} {fn : List He.DefD} {fb : PySem.W.Frag → Bool} {g : Addr → Option Obj} {s : Shared} (h : ∀ a, g a = s.heap.get? a) : obsSG n fa fn fb g = (hookS n fa fn fb).obs s := by
  have e : g = s.heap.get? := funext h
  rw [e]
  rfl
end DL
set_option Elab.async false
set_option linter.all false
set_option maxRecDepth 100000
set_option maxHeartbeats 4000000
/-! lists of which one is longer are not equal, whatever they hold; *= of greater numbers -/
namespace DL
open PySem PySem.Spec PyProof.Rows L2
/-- how long a list is -/
def lnD (G : GH) : D → Option Nat
  | .lst ds => some ds.length
  | .frl ds => some ds.length
  | .ref a => (lstAt (G a)).map List.length
  | _ => none
def lnO (b : Bool) (o : O2) : O2 := fun x y G Q => (∃ n m, lnD G x = some n ∧ lnD G y = some m ∧ n ≠ m ∧ Q (.bl b) G) ∨ o x y G Q
def rLn (K : PySem.W.Frag) (b : Bool) : R2 := fun x y H Q => ∃ p q xs ys, x = .ref p ∧ y = .ref q ∧ SqL K H p xs ∧ SqL K H q ys ∧ xs.length ≠ ys.length ∧ Q (.bl b) H
theorem ln_at {T : Tb} {G : GH} {H : Hp} {x : D} {v : V} {n : Nat} (rh : RH T G H) (r : RV T G H x v) (h : lnD G x = some n) : ∃ a xs, v = .ref a ∧ SqL T.K H a xs ∧ xs.length = n := by
  cases r with
  | lst g hx l r => cases h; exact ⟨_, _, rfl, SqL.of hx, r.length.symm⟩
  | frl hx l r => cases h; exact ⟨_, _, rfl, hx.sq, r.length.symm⟩
  | ref a =>
    obtain ⟨ds, e1, e2⟩ := Option.map_eq_some_iff.mp (show (lstAt (G a)).map List.length = some n from h)
    have g := lstAt_some e1
    obtain ⟨vs, hx, _, r⟩ := rh a _ g
    exact ⟨_, _, rfl, SqL.of hx, by rw [← r.length]; exact e2⟩
  | _ => cases h
theorem vals_len : ∀ {xs : List V} {us : List Value}, Vals xs us → us.length = xs.length
  | _, _, .nil => rfl
  | _, _, .cons _ t => congrArg (· + 1) (vals_len t)
theorem sizes {xs ys : List V} {a b : List Value} (h1 : Vals xs a) (h2 : Vals ys b) (h : xs.length ≠ ys.length) : (a.toArray.size != b.toArray.size) = true := by
  rw [bne_iff_ne]
  show a.length ≠ b.length
  rw [vals_len h1, vals_len h2]
  exact h
section
variable {X : Cx}
theorem op_eqLn (hu : X.A.units + 64 < cLine) : OpR X (compareOp .Eq) (rLn X.K false) := by
  intro pins s σ H x y v u Q I rx ry h
  obtain ⟨p, q, xs, ys, rfl, rfl, h1, h2, hne, k⟩ := h
  cases rx
  cases ry
  obtain ⟨a, va, la, _⟩ := I.list h1
  obtain ⟨b, vb, lb, _⟩ := I.list h2
  obtain ⟨oa, na, ga, ca, _, da⟩ := la
  obtain ⟨ob, nb, gb, cb, _, db⟩ := lb
  exact SeqAt.RcAt.lists_lengths ⟨oa, ga, ca, na, da⟩ ⟨ob, gb, cb, nb, db⟩ (sizes va vb hne) (by omega) X.prog X.w _ _ ⟨.bl _, H, I, rfl, k⟩
theorem op_neLn (hu : X.A.units + 64 < cLine) : OpR X (compareOp .NotEq) (rLn X.K true) := by
  intro pins s σ H x y v u Q I rx ry h
  obtain ⟨p, q, xs, ys, rfl, rfl, h1, h2, hne, k⟩ := h
  cases rx
  cases ry
  obtain ⟨a, va, la, _⟩ := I.list h1
  obtain ⟨b, vb, lb, _⟩ := I.list h2
  obtain ⟨oa, na, ga, ca, _, da⟩ := la
  obtain ⟨ob, nb, gb, cb, _, db⟩ := lb
  exact SeqAt.RcNeAt.lists_lengths ⟨oa, ga, ca, na, da⟩ ⟨ob, gb, cb, nb, db⟩ (sizes va vb hne) (by omega) X.prog X.w _ _ ⟨.bl _, H, I, rfl, k⟩
end
def rEi (r r' : R2) : R2 := fun x y H Q => r x y H Q ∨ r' x y H Q
theorem opr_ei {X : Cx} {f : Value → Value → Sem Value} {r r' : R2} (a : OpR X f r) (b : OpR X f r') : OpR X f (rEi r r') := by
  intro pins s σ H x y v u Q I rx ry h
  rcases h with h | h
  · exact a pins s σ H x y v u Q I rx ry h
  · exact b pins s σ H x y v u Q I rx ry h
theorem oi_ln {T : Tb} {K : PySem.W.Frag} (hK : K = T.K) {b : Bool} {r : R2} {o : O2} (h : OpI T r o) : OpI T (rEi (rLn K b) r) (lnO b o) := by
  intro G H x y v u Q Qv rh rx ry q k
  subst hK
  rcases q with ⟨n, m, h1, h2, hne, q⟩ | q
  · obtain ⟨p, xs, rfl, s1, l1⟩ := ln_at rh rx h1
    obtain ⟨p2, ys, rfl, s2, l2⟩ := ln_at rh ry h2
    exact .inl ⟨p, p2, xs, ys, rfl, rfl, s1, s2, by omega, k _ _ G H (.bl _) rh (Keep.refl _ _) q⟩
  · exact .inr (h G H x y v u Q Qv rh rx ry q k)
section
variable {T : Tb} {X : Cx} {W : WX} {a b : Expr} {ta tb : TEd} {pos : Pos}
theorem qt_eqLn (hK : X.K = T.K) (hu : X.A.units + 64 < cLine) (ha : QE T X W a ta) (hb : QE T X W b tb) (hm : behindInMarks .Eq b = false := by first | exact nomark _ | rfl) : QT T X W (.Compare a [.Eq] [b] pos) (wTest (wOp (lnO false eqO) ta tb)) :=
  qt_cmp (opr_ei (op_eqLn hu) (op_eqO hu)) (oi_ln hK (oi_eq hK)) ha hb hm
theorem qt_neLn (hK : X.K = T.K) (hu : X.A.units + 64 < cLine) (ha : QE T X W a ta) (hb : QE T X W b tb) (hm : behindInMarks .NotEq b = false := by first | exact nomark _ | rfl) : QT T X W (.Compare a [.NotEq] [b] pos) (wTest (wOp (lnO true neO) ta tb)) :=
  qt_cmp (opr_ei (op_neLn hu) (op_neO hu)) (oi_ln hK (oi_ne hK)) ha hb hm
end
end DL
namespace DL
open PySem PySem.Spec PyProof.Rows L2
theorem iop_mulW {X : Cx} : OpR X (inplaceOp .Mult) (rI (fun i j => CMulW i j ∨ CMul i j) fun i j => .int (i * j)) := opI fun _ _ _ _ _ _ _ hc q => imul_int q (hc.elim CMulW.ok CMul.ok)
theorem ip_mulWC {X : Cx} : PIp X .Mult (rI (fun i j => CMulW i j ∨ CMul i j) fun i j => .int (i * j)) := iop_mulW
abbrev augMulW : O2 := intO (fun i j => CMulW i j ∨ CMul i j) fun i j => .int (i * j)
theorem oi_mulWC {T : Tb} : OpI T (rI (fun i j => CMulW i j ∨ CMul i j) fun i j => .int (i * j)) augMulW := oi_int fun _ _ _ _ => .int _
end DL
set_option Elab.async false
set_option linter.all false
set_option maxRecDepth 100000
set_option maxHeartbeats 4000000
/-! exceptions whose context is None: raised, let out of defs, caught, looked at by defs that are called meanwhile -/
namespace DL
open PySem PySem.Spec PyProof.Rows L2
/-! ### making them -/
section
variable {X : Cx} {x : Str} {C fI : Addr} {k : Nat} {fd : FuncData} {ps : List Str} {sp : Sp} {e : Expr} {es : List Expr} {ta : TA} {p pos : Pos}
theorem mk_endN {pins : List (Addr × Obj)} {σ : List (Option V)} {H1 H2 : Hp} {Q : XK} {hp hp2 h2 : Heap} {g1 g2 : Array GenState} {d1 d2 : Drawn} {t1 t2 : Nat} {os1 os2 : OsState} {a C d : Addr} {fs : List (Str × V)} (T : Raises X (.ref C)) (I1 : Inv X pins σ H1 ⟨hp, g1, d1, t1, os1⟩)
    (ha : hp.objs.size ≤ a) (k : ∀ b o, hp.get? b = some o → hp2.get? b = some o) (un : Un (frs X.stack) [] (upd H1 a (exo a C none)) H2 hp2 h2) (hok : HOk X.prog X.w H2 h2) (ho : os2 = os1) (hb : AllBare g2)
    (ea : H2 a = some (exo a C (some d))) (ed : H2 d = some (exd d fs)) (hd1 : H1 d = none) (q : Q (.ref C) (some d) (upd (del H2 a) d (.xd fs))) : L2N.MkP X pins σ Q (.ref a) ⟨h2, g2, d2, t2, os2⟩ := by
  obtain ⟨t0, G, J, kG, ge, hoe, na⟩ := mk_end0 (d2 := d2) (t2 := t2) I1 ha k un hok ho hb ea ed hd1
  exact ⟨a, _, _, ⟨G, g2, d2, t2, os2⟩, _, .ref C, some d, rfl, J, kG, ge, hoe, ⟨rfl, rfl, fun vs e => by cases e; rfl⟩, rfl, rfl, na, rfl, hb, T, q⟩
theorem pmkN_oex {CX : CXT} {ds : List Value} {dvs : List V} (T : OexC X.K C) (iC : PySem.W.findIn X.K (.ref C) "__init__" = some (some (.ref fI))) (tI : PySem.W.typeIn X.K (.ref fI) = some (.type "function"))
    (F1 : FnOk X.prog X.w X.K X.mg X.base CX k fI fd ps sp) (hr : Room (k + 1) X.A) (hb : Binds X.K fd ps ds) (hd : Vals dvs ds) (hx : Passes CX X (fun _ _ _ => False)) (hg : Gl X x) (hm : X.mg x = some (.ref C)) (ha : PA X (e :: es) ta)
    (hdb : (x == ("__debug__" : Str)) = false := by decide) (he : starEach (e :: es) X.env = (false, eval e X.env) :: starEach es X.env := by rfl) (hpl : (backTo pos (starEach es X.env)).any (·.1) = false := by rfl) :
    L2N.PMk X (.Call (.Name x p) (e :: es) [] pos) (tMkO C sp dvs ta) := by
  intro pins s σ H Q I h
  obtain ⟨nm, q, N, bs, bm, sn, sub, ab, col, dd, k0, k1, k2, k3, k5, hC, hbm⟩ := T.cls
  refine wpAny_Call_Name_kw (ld_glob I hg hm ?_ hdb)
  refine PySem.W.callWith_K (h₀ := X.base) I.ok.mod.kin T.kC (thn (ha.run pos pins s σ H _ I h) fun us s1 ⟨vs, H1, I1, r1, hz, q1⟩ => ⟨I1.kIn, ?_⟩) he hpl
  show wpAny _ _ (call (.ref C) us) _ _ _
  obtain ⟨hp, g, dr, tk, os⟩ := s1
  have hsz : hp.objs.size ≤ hp.objs.size + 1 := Nat.le_succ _
  have hn : H1 (hp.objs.size + 1) = none := I1.hok.fresh hsz
  have hq := q1 (hp.objs.size + 1) hn
  have kk : ∀ b o, hp.get? b = some o → ((hp.push (PySem.W.kdv_tup us)).push (PySem.HandSPX.excO C hp.objs.size)).get? b = some o := fun b o e => Heap.get?_push_of_some _ (Heap.get?_push_of_some _ e)
  have hget : ((hp.push (PySem.W.kdv_tup us)).push (PySem.HandSPX.excO C hp.objs.size)).get? (hp.objs.size + 1) = some (PySem.HandSPX.excO C hp.objs.size) := by heap_get
  have I2 : Inv X pins σ (upd H1 (hp.objs.size + 1) (exo (hp.objs.size + 1) C none)) ⟨(hp.push (PySem.W.kdv_tup us)).push (PySem.HandSPX.excO C hp.objs.size), g, dr, tk, os⟩ :=
    I1.laid (t' := tk) (a := hp.objs.size + 1) (o := exo (hp.objs.size + 1) C none) (h' := (hp.push (PySem.W.kdv_tup us)).push (PySem.HandSPX.excO C hp.objs.size)) kk hsz (exo_ok hget)
  have r2 : Vals (V.ref (hp.objs.size + 1) :: (vs ++ dvs)) (Value.ref (hp.objs.size + 1) :: (us ++ ds)) := .cons rfl (r1.append hd)
  have hl : (Value.ref (hp.objs.size + 1) :: us ++ ds).length = ps.length := by
    have e := r2.length
    rw [F1.len _ _ _ _ hq] at e
    exact e.symm
  have hus : us.length ≤ sizeLine := by
    rw [← Paired.length r1, sizeLine_eq]
    omega
  refine wpAny_call (PySem.HandSPX.call_own F.excBase_ValueError (fun Y => PySem.HandSPX.refsVE_contains Y bm hbm) (I1.kIn _ _ hC) (PySem.W.looks_findIn I1.kIn iC) (fun self => PySem.W.bind_fn I1.kIn self tI) hus
    (codeAny_mono (F1.run _ X.stack _ _ ⟨Value.ref (hp.objs.size + 1) :: us, []⟩ (Value.ref (hp.objs.size + 1) :: (us ++ ds)) _ _ (fun _ _ _ => False) (hr.make C us []) (I2.env0.make C us []) (hb _ (Value.ref (hp.objs.size + 1) :: us) I2.kIn hl) r2 hq) fun r s' hq' => ?_))
  cases r with
  | error er => exact hx pins σ _ _ er s' I2 hq'
  | ok fl =>
    cases fl with
    | ret u =>
      obtain ⟨v, H2, os2, bare2, un2, hok2, rv, ev, d, fs, ea, ed, hd1, q2⟩ := hq'
      subst ev
      obtain ⟨h2, g2, d2, t2, os'⟩ := s'
      exact ⟨rv, mk_endN (raises_own T.exC T.tyC) I1 hsz kk un2 hok2 os2 bare2 ea ed hd1 q2⟩
    | next => exact False.elim hq'
    | brk => exact False.elim hq'
    | cont => exact False.elim hq'
/-- X(), an own exception class without own __init__ -/
theorem pmkN_own0 {bmB : List Value} {B newId initId : String} (F : ExcBaseFacts B newId initId bmB) (q : PySem.W.excIn X.K C bmB newId = true) (gC : X.mg x = some (.ref C))
    (kC : PySem.W.keepIn X.K (.ref C) = true) (r : Raises X (.ref C)) (hg : Gl X x) (hdb : (x == ("__debug__" : Str)) = false := by decide) :
    L2N.PMk X (.Call (.Name x p) [] [] pos) (fun σ H Q => Q (.ref C) none H) := by
  intro pins s σ H Q I h
  refine wpAny_Call_Name_kw (ld_glob I hg gC ?_ hdb)
  refine PySem.W.callWith_K0 I.kIn kC ?_
  show wpAny _ _ (call (.ref C) []) _ _ _
  obtain ⟨bm, N, nm, qn, bs, hdct, sn, sub, ab, col, dd, k0, k1, k2, k3, k5, mN, hC, hN, hni, T⟩ := exc_obj I.kIn q
  refine wpAny_call_exc_subT F T hC hN hni (fun h' e hm => ?_) (by show 0 ≤ sizeLine; exact Nat.zero_le _)
  exact L2N.mk_of I hm r h (I.hok.gone hm.new)
end
end DL
set_option Elab.async false
set_option linter.all false
set_option maxRecDepth 100000
set_option maxHeartbeats 4000000
/-! tuple * 0, tuple * 1; index of a text; d.get(k, x); is None; extend; int(truth); not in by an own __contains__ -/
namespace DL
open PySem PySem.Spec PyProof.Rows L2
/-! ### tuple * 0 or 1 -/
theorem tuple_mul0 (l : Addr) (items : Array Value) (n : Nat) (dd : Option Addr) (sl : Array (Option Value)) (u : Tok) (c1 : (items.isEmpty || (0 : Int) == 1) = false) :
    Meets (Builtin.«tuple.__mul__» ⟨[.ref l, .int 0 u], []⟩) (fun _ R s => s.heap.get? l = some { cls := .type "tuple", dict := dd, data := .seq items n, slots := sl } ∧
      R (.ok (.ret (Value.ref s.heap.objs.size))) { s with heap := s.heap.push { cls := Value.type "tuple", data := Data.seq #[] }, toks := s.toks }) :=
  .of_wp fun prog w A R s h => by
    obtain ⟨hp, g, d, tk, os⟩ := s
    obtain ⟨hl, h⟩ := h
    have f1 := AutoSeq1.idx_int
    have c0 : (decide ((0 : Int) < -(2 ^ 63)) || decide ((0 : Int) ≥ 2 ^ 63)) = false := by decide
    have c2 : (decide ((0 : Int) ≤ 0) || items.isEmpty) = true := rfl
    wp_walk using wpAny_loadPart' hl
    repeat (first
      | (refine wpAny_ite_false (decide_eq_false (by rw [c0]; exact Bool.false_ne_true)) ?_; wp_walk using wpAny_loadPart' hl)
      | (refine wpAny_ite_false (decide_eq_false (by rw [c1]; exact Bool.false_ne_true)) ?_; wp_walk using wpAny_loadPart' hl)
      | (refine wpAny_ite_true (decide_eq_true c2) ?_; wp_walk using wpAny_loadPart' hl))
    exact ⟨_, rfl, h⟩
theorem tuple_mul1 (l : Addr) (items : Array Value) (n : Nat) (dd : Option Addr) (sl : Array (Option Value)) (u : Tok) :
    Meets (Builtin.«tuple.__mul__» ⟨[.ref l, .int 1 u], []⟩) (fun _ R s => s.heap.get? l = some { cls := .type "tuple", dict := dd, data := .seq items n, slots := sl } ∧
      R (.ok (.ret (Value.ref l))) s) :=
  .of_wp fun prog w A R s h => by
    obtain ⟨hp, g, d, tk, os⟩ := s
    obtain ⟨hl, h⟩ := h
    have f1 := AutoSeq1.idx_int
    have c0 : (decide ((1 : Int) < -(2 ^ 63)) || decide ((1 : Int) ≥ 2 ^ 63)) = false := by decide
    have c1 : (items.isEmpty || (1 : Int) == 1) = true := by rw [show ((1 : Int) == 1) = true from rfl, Bool.or_true]
    wp_walk using wpAny_loadPart' hl
    repeat (first
      | (refine wpAny_ite_false (decide_eq_false (by rw [c0]; exact Bool.false_ne_true)) ?_; wp_walk using wpAny_loadPart' hl)
      | (refine wpAny_ite_true (decide_eq_true c1) ?_; wp_walk using wpAny_loadPart' hl))
    all_goals first
      | exact ⟨_, rfl, h⟩
      | exact h
      | skip
def rRep01 (K : PySem.W.Frag) : R2 := fun x y H Q => ∃ l xs, x = .ref l ∧ SqT K H l xs ∧ xs ≠ [] ∧ ((y = .int 0 ∧ ∀ p, H p = none → Q (.ref p) (upd H p (.tup []))) ∨ (y = .int 1 ∧ Q (.ref l) H))
section
variable {X : Cx}
theorem op_rep01 : OpR X (binaryOp .Mult) (rRep01 X.K) := by
  intro pins s σ H x y v u Q I rx ry h
  obtain ⟨l, xs, rfl, hT, hne, h⟩ := h
  cases rx
  obtain ⟨its, r, ⟨⟨cls, dd, data, sl⟩, ho, hc, n, hd⟩, hs⟩ := I.tuple hT
  simp only at hc hd
  subst hc hd
  have hle : its.length = xs.length := r.length.symm
  have hn : its ≠ [] := fun e => hne (by
    rw [e] at hle
    exact List.eq_nil_of_length_eq_zero hle.symm)
  have hi : its.toArray.isEmpty = false := by
    cases its with
    | nil => exact absurd rfl hn
    | cons a b => rfl
  rcases h with ⟨rfl, q⟩ | ⟨rfl, q⟩
  · obtain ⟨t, rfl⟩ := ry
    refine wpAny_binaryOp_repeat_ref (T := "tuple") (U := "int") (by decide) ⟨_, ho, rfl⟩ (fun s' => typeIs_int s' 0 t) noFill_tuple_mul F.fills_int_mul F.slot_int_rmul repeat_tuple F.slot_int_index.lookup
      (call_meets F.slot_int_rmul (typeIs_int s 0 t) F.entry_int_rmul (F.args_int_rmul_2 _ _) (int_rmul_tuple 0 t l its.toArray n dd sl)
        ⟨ho, rfl, ⟨_, ho, rfl⟩, call_meets F.slot_tuple_mul ⟨_, ho, rfl⟩ F.entry_tuple_mul (F.args_tuple_mul_2 _ _) (tuple_mul0 l its.toArray n dd sl t (by rw [hi]; rfl)) ⟨ho, ?_⟩⟩)
    exact ⟨.ref _, _, I.laid (t' := s.toks) (o := .tup []) (fun b ob z => Heap.get?_push_of_some _ z) (Nat.le_refl _) ⟨Nat.zero_le _, [], .nil, IsTup.new _ _⟩, rfl, q _ (I.hok.fresh (Nat.le_refl _))⟩
  · obtain ⟨t, rfl⟩ := ry
    refine wpAny_binaryOp_repeat_ref (T := "tuple") (U := "int") (by decide) ⟨_, ho, rfl⟩ (fun s' => typeIs_int s' 1 t) noFill_tuple_mul F.fills_int_mul F.slot_int_rmul repeat_tuple F.slot_int_index.lookup
      (call_meets F.slot_int_rmul (typeIs_int s 1 t) F.entry_int_rmul (F.args_int_rmul_2 _ _) (int_rmul_tuple 1 t l its.toArray n dd sl)
        ⟨ho, rfl, ⟨_, ho, rfl⟩, call_meets F.slot_tuple_mul ⟨_, ho, rfl⟩ F.entry_tuple_mul (F.args_tuple_mul_2 _ _) (tuple_mul1 l its.toArray n dd sl t) ⟨ho, ?_⟩⟩)
    exact ⟨.ref _, H, I, rfl, q⟩
end
def mulTO : O2 := fun x y G Q => ∃ ds, x = .tup ds ∧ ds ≠ [] ∧ ((y = .int 0 ∧ Q (.tup []) G) ∨ (y = .int 1 ∧ Q (.tup ds) G))
theorem oi_mulT {T : Tb} {K : PySem.W.Frag} (hK : K = T.K) : OpI T (rRep01 K) mulTO := by
  intro G H x y v u Q Qv rh rx ry ⟨ds, ex, hne, q⟩ k
  subst hK ex
  cases rx with
  | tup hx l r =>
    have hne' : ∀ {xs : List V}, RVs T G H ds xs → xs ≠ [] := fun r e => hne (by subst e; cases r; rfl)
    refine ⟨_, _, rfl, hx.sq, hne' r, ?_⟩
    rcases q with ⟨rfl, q⟩ | ⟨rfl, q⟩
    · cases ry
      exact .inl ⟨rfl, fun p np => k _ _ _ _ (.tup ⟨rh.fresh np, .inl upd_same⟩ (Nat.zero_le _) .nil) (rh.new np) (Keep.new np) q⟩
    · cases ry
      exact .inr ⟨rfl, k _ _ G H (.tup hx l r) rh (Keep.refl _ _) q⟩
section
variable {T : Tb} {X : Cx} {W : WX} {a b e f o : Expr} {es : List Expr} {ta tb te to tf : TEd} {u : TAd} {p pos apos : Pos}
theorem q_mulT (hK : X.K = T.K) (ha : QE T X W a ta) (hb : QE T X W b tb) : QE T X W (.BinOp a .Mult b pos) (wOp mulTO ta tb) := q_op op_rep01 (oi_mulT hK) ha hb
/-! ### is None -/
def isNonD : D → Bool
  | .non => true
  | _ => false
def isNO (n : Bool) : O2 := fun x y G Q => y = .non ∧ Q (.bl (if n = true then !isNonD x else isNonD x)) G
theorem non_dec {T : Tb} {G : GH} {H : Hp} {x : D} {v : V} (r : RV T G H x v) : decide (v = V.non) = isNonD x := by
  cases r <;> first | rfl | (apply decide_eq_false; intro e; cases e)
theorem oi_isN {T : Tb} : OpI T (fun x y H Q => y = .non ∧ Q (.bl (decide (x = .non))) H) (isNO false) := by
  intro G H x y v u Q Qv rh rx ry ⟨e, q⟩ k
  subst e
  cases ry
  refine ⟨rfl, ?_⟩
  rw [non_dec rx]
  exact k _ _ G H (.bl _) rh (Keep.refl _ _) q
theorem oi_notN {T : Tb} : OpI T (fun x y H Q => y = .non ∧ Q (.bl (!decide (x = .non))) H) (isNO true) := by
  intro G H x y v u Q Qv rh rx ry ⟨e, q⟩ k
  subst e
  cases ry
  refine ⟨rfl, ?_⟩
  rw [non_dec rx]
  exact k _ _ G H (.bl _) rh (Keep.refl _ _) q
theorem q_isN (ha : QE T X W a ta) (hb : QE T X W b tb) (hm : behindInMarks .Is b = false := by first | exact nomark _ | rfl) : QE T X W (.Compare a [.Is] [b] pos) (wOp (isNO false) ta tb) := q_cmp op_isN oi_isN ha hb hm
theorem qt_isN (ha : QE T X W a ta) (hb : QE T X W b tb) (hm : behindInMarks .Is b = false := by first | exact nomark _ | rfl) : QT T X W (.Compare a [.Is] [b] pos) (wTest (wOp (isNO false) ta tb)) := qt_cmp op_isN oi_isN ha hb hm
theorem q_notN (ha : QE T X W a ta) (hb : QE T X W b tb) (hm : behindInMarks .IsNot b = false := by first | exact nomark _ | rfl) : QE T X W (.Compare a [.IsNot] [b] pos) (wOp (isNO true) ta tb) := q_cmp op_notN oi_notN ha hb hm
theorem qt_notN (ha : QE T X W a ta) (hb : QE T X W b tb) (hm : behindInMarks .IsNot b = false := by first | exact nomark _ | rfl) : QT T X W (.Compare a [.IsNot] [b] pos) (wTest (wOp (isNO true) ta tb)) := qt_cmp op_notN oi_notN ha hb hm
/-! ### int(truth) -/
def intBO : OL := fun ds G Q => match ds with
  | [.bl k] => Q (.int (if k then 1 else 0)) G
  | _ => False
theorem ci_intB : CallI T (fun xs H Q => (∃ i, xs = [.int i] ∧ Q (.int i) H) ∨ ∃ k, xs = [.bl k] ∧ Q (.int (if k then 1 else 0)) H) intBO := by
  intro G H ds vs Q Qv rh r q k
  rcases r with _ | ⟨rx, _ | ⟨_, _⟩⟩
  · exact False.elim q
  · cases rx with
    | bl b => exact .inr ⟨b, rfl, k _ _ G H (.int _) rh (Keep.refl _ _) q⟩
    | _ => exact False.elim q
  · cases rx <;> exact False.elim q
theorem q_intB (hm : X.mg "int" = none) (ha : QA T X W (e :: es) u) (hg : Gl X "int" := by rfl) (he : starEach (e :: es) X.env = (false, eval e X.env) :: starEach es X.env := by rfl) (hpl : (backTo pos (starEach es X.env)).any (·.1) = false := by rfl) :
    QE T X W (.Call (.Name "int" p) (e :: es) [] pos) (wCall intBO u) := q_callTy call_int1 ci_intB hg hm rfl ha (by decide) (by decide) he hpl
/-! ### not in by an own __contains__ -/
theorem qt_notInOwn {c k : Nat} {sp : DSp} (hK : X.K = T.K) (C : CalM T X.prog X.w X.mg X.base c "__contains__" k sp) (hr : RoomG k X.A) (ha : QE T X W a ta) (hb : QE T X W b tb) (hm : behindInMarks .NotIn b = false := by first | exact nomark _ | rfl) :
    QT T X W (.Compare a [.NotIn] [b] pos) (wTest (wOp (inOwnO true c sp) ta tb)) := qt_cmp (op_notInOwn hK C hr) oi_inOwn ha hb hm
end
end DL
set_option Elab.async false
set_option linter.all false
set_option maxRecDepth 100000
set_option maxHeartbeats 4000000
/-! exceptions whose context is None: raised, let out of defs, caught -/
namespace DL
open PySem PySem.Spec PyProof.Rows L2
/-- an exception class without a field -/
structure CalX0 (T : Tb) (mg : Str → Option Value) (x : Str) (c : Nat) : Prop where
  ex : ∃ bmB newId, PySem.W.excIn T.K (T.cls c) bmB newId = true ∧ ∃ B initId, ExcBaseFacts B newId initId bmB
  g : mg x = some (.ref (T.cls c))
  k : PySem.W.keepIn T.K (.ref (T.cls c)) = true
  sb : PySem.W.subIn T.K (.ref (T.cls c)) (.type "BaseException") = some true
  ty : PySem.W.typeIn T.K (.ref (T.cls c)) = some (.type "type")
def wRaise0 (c : Nat) : TSd := fun De env G => De.ex c [] env G
section
variable {T : Tb} {X : Cx} {W : WX} {c : Nat} {x f : Str} {e : Expr} {te : TEd} {p pos pos2 : Pos}
theorem q_raiseN (hc : X.calm = true) (tk : L2N.Takes X W) (hK : X.K = T.K) (C : CalX T X.prog X.w X.mg X.base x c f) (hr : RoomG 2 X.A) (he : QE T X W e te) (hg : Gl X x := by rfl) (hdb : (x == ("__debug__" : Str)) = false := by decide)
    (hst : starEach [e] X.env = (false, eval e X.env) :: starEach [] X.env := by rfl) (hpl : (backTo pos (starEach [] X.env)).any (·.1) = false := by rfl) :
    QS T X W (.Raise (some (.Call (.Name x p) [e] [] pos)) none pos2) (wRaise c te) := by
  obtain ⟨fI, fd, h1, h2, h3, h4⟩ := C.ex
  have ok := C.ok
  rw [← hK] at h1 h2 h3 h4 ok
  refine QS.of (L2N.ps_raise hc tk (pmkN_oex ok.oex h1 h2 h3 hr.r h4 .nil pass0 hg C.g (pa_cons he.pe pa_nil hst) hdb hst hpl)) fun env G De Dv σ H rs rh ex en q => ?_
  refine intoE rs rh (ex.at rs) q fun d v G1 H1 rd rh1 k1 q1 => ⟨(by decide : 1 ≤ 1000), fun a ha => ⟨a, T.cls c, v, rfl, ok.oex, ok.no, upd_same, fun dx hdx hne => ⟨rfl, dx, [(f, v)], upd_same, by rw [upd_ne hne, upd_same], ?_, ?_⟩⟩⟩
  · rw [upd_ne hne] at hdx; exact hdx
  · rw [upd_ne hne] at hdx
    rw [xmade ha hne]
    exact ex c [d] env G1 _ (some dx) σ _ q1 ⟨rfl, .inr ⟨dx, [v], rfl, rh1.fresh hdx, by rw [C.fl]; exact upd_same, by rw [C.fl]; rfl, .cons (rd.keep (Keep.new hdx)) .nil⟩⟩ ((rs.keep k1).keep (Keep.new hdx)) (rh1.new hdx) (k1.trans (Keep.new hdx))
theorem q_raise0N (hc : X.calm = true) (tk : L2N.Takes X W) (hK : X.K = T.K) (C : CalX0 T X.mg x c) (hg : Gl X x := by rfl) (hdb : (x == ("__debug__" : Str)) = false := by decide) :
    QS T X W (.Raise (some (.Call (.Name x p) [] [] pos)) none pos2) (wRaise0 c) := by
  obtain ⟨bmB, newId, h1, B, initId, F⟩ := C.ex
  have k := C.k
  have sb := C.sb
  have ty := C.ty
  rw [← hK] at h1 k sb ty
  refine QS.of (L2N.ps_raise hc tk (pmkN_own0 F h1 C.g k (raises_own sb ty) hg hdb)) fun env G De Dv σ H rs rh ex en q => ?_
  exact ex c [] env G _ none σ _ q ⟨rfl, .inl ⟨rfl, rfl⟩⟩ rs rh (Keep.refl _ _)
end
/-- a def that may be called, whose exceptions have no context -/
structure CalN (T : Tb) (P : Program) (w : World) (mg : Str → Option Value) (base : Heap) (x : Str) (k : Nat) (n : Nat) (sp : DSp) : Prop where
  ex : ∃ f fd ps, ps.length = n ∧ FnG P w T.K mg base (L2N.CX P w) k f fd ps (liftSp T sp) ∧ mg x = some (.ref f) ∧ PySem.W.keepIn T.K (.ref f) = true ∧ Binds T.K fd ps []
section
variable {T : Tb} {X : Cx} {W : WX} {k n : Nat} {sp : DSp} {x : Str} {p pos : Pos} {e : Expr} {es : List Expr} {u : TAd} {te : TEd} {f : Addr} {fd : FuncData} {ps : List Str}
theorem run_GN {pins : List (Addr × Obj)} {σ : List (Option V)} {H : Hp} {s : Shared} {Q : VK} {us : List Value} {vs : List V} {sp : Sp} (tk : L2N.Takes X W) (F : FnG X.prog X.w X.K X.mg X.base (L2N.CX X.prog X.w) k f fd ps sp) (hr : RoomG k X.A) (hb : Binds X.K fd ps [])
    (I : Inv X pins σ H s) (r : Vals vs us) (h : sp vs H Q (WE W σ)) : wpAny (model X.prog X.w) X.A (call (.ref f) us) (EP X pins σ Q) X.xe s := by
  have r2 := r.append (.nil : Vals [] [])
  rw [List.append_nil, List.append_nil] at r2
  have hl : us.length = ps.length := r2.length.symm.trans (F.len _ _ _ _ h)
  have hb' := hb s us I.kIn (by rw [List.append_nil]; exact hl)
  rw [List.append_nil] at hb'
  refine wpAny_call (codeAny_mono (F.run X.A X.stack s H ⟨us, []⟩ us vs Q (WE W σ) hr I.env0 hb' r2 h) fun res s' hq => ?_)
  rcases res with er | (fl | fl | fl | fl)
  · exact L2N.passAt tk σ pins H s er s' I hq
  all_goals first | exact I.after hq | exact False.elim hq
theorem qclN (tk : L2N.Takes X W) (hK : X.K = T.K) (C : CalN T X.prog X.w X.mg X.base x k n sp) (hr : RoomG k X.A) (hg : Gl X x)
    (ha : QA T X W (e :: es) u) (hdb : (x == ("__debug__" : Str)) = false := by decide) (he : starEach (e :: es) X.env = (false, eval e X.env) :: starEach es X.env := by rfl) (hpl : (backTo pos (starEach es X.env)).any (·.1) = false := by rfl) :
    QE T X W (.Call (.Name x p) (e :: es) [] pos) (wFn sp u) := by
  obtain ⟨f, fd, ps, _, F, hm, hk, hb⟩ := C.ex
  rw [← hK] at F hk hb
  exact ⟨⟨fun pins s σ H Qv I ⟨env, G, Q, Ex, rs, rh, ex, q, kq⟩ => by
    refine wpAny_Call_Name_kw (ld_glob I hg hm ?_ hdb)
    have q' : liftA T W u σ H (fun vs H1 => liftSp T sp vs H1 Qv (WE W σ)) := intoA rs rh ex q fun ds vs G1 H1 rds rh1 k1 q1 =>
      intoSp rds rh1 (ex.keep k1) q1 fun d v G' H' a b c d' => kq v H' ⟨d, G', a, b, k1.trans c, d'⟩
    refine PySem.W.callWith_K (h₀ := X.base) I.ok.mod.kin hk (thn (ha.pa.run pos pins s σ H _ I q') fun us s1 ⟨vs, H1, I1, r, q2⟩ => ⟨I1.kIn, ?_⟩) he hpl
    exact run_GN tk F hr hb I1 r q2⟩⟩
/-- the rule for such a def -/
theorem okFN {P : Program} {w : World} {mg : Str → Option Value} {base : Heap} {qual : Str} {params : Arguments} {st : List Stmt} {scope : Scope} {dvs : List V} {kws : List (Str × V)} {N : List Str} {t : TSd}
    (F : FunD T.K x qual params st scope dvs kws f fd) (S : FnScope N ps scope) (len : ∀ ds G Q Ex, sp ds G Q Ex → ds.length = ps.length)
    (body : ∀ (cdv : Value) (A : Around) (outer : List Env) (s : Shared) (H : Hp) (E : XK), RoomG k (A.deeper (envOfC qual scope s.heap.objs.size f cdv)) →
      QSs T (cxOf (L2N.CX P w) P w T.K mg base N qual scope f cdv A outer s H E) (fun cls d _ H => E cls d H) st t)
    (read : ∀ ds G Q Ex, sp ds G Q Ex → t { nx := fun _ G' => Q .non G', rt := Q, bk := fun _ _ => False, ct := fun _ _ => False, ex := fun c xs _ G' => Ex c xs G' } (startD N ds) G) :
    FnG P w T.K mg base (L2N.CX P w) (k + 1) f fd ps (liftSp T sp) := by
  obtain ⟨oc, od, dV, kV, doc, pm, an, cdv, ct, osl, rfl, lk, hcd, _, _⟩ := F.ex
  refine ⟨fun vs H Q E ⟨ds, G, Q', Ex, r, _, h, _⟩ => r.length.symm.trans (len _ _ _ _ h), fun A outer s H args us vs Q E rg e0 bind rv ⟨ds, G, Q', Ex, r, rh, h, q1, q2⟩ => ?_⟩
  have hl : vs.length = ps.length := r.length.symm.trans (len _ _ _ _ h)
  have here : ∀ b o, base.get? b = some o → s.heap.get? b = some o := fun b o e => (e0.bs b o e).1
  have KX : T.K.In s.heap := e0.mod.kin.keeps here
  have scopes : ∀ y ∈ ps.zip us, scope.names.lookup y.1 = some .local ∨ (scope.names.lookup y.1 = some .cell ∧ ((cellsFrom (s.heap.objs.size + 1) scope.names []).lookup y.1).isSome = true) := by
    rintro ⟨n, v⟩ hy
    rcases S.par n (List.of_mem_zip hy).1 with q | q
    · exact .inl q
    · exact .inr ⟨q, PySem.W.cellsFrom_some _ _ _ (.inl q)⟩
  refine codeAny_call_function rg.r.depth (KX _ _ lk) rfl S.co S.gen rfl (PySem.W.codeRec_of KX hcd) (bind _ _ _ _ ?_)
  refine wpAny_newFunctionEnv_cells S.kind scopes fun env he s1 inn => ?_
  subst he
  refine ⟨(e0.mod.nolimit.keeps here).keeps inn.toInCall.keep, codeAny_func ?_⟩
  have ht := (body cdv A outer s H E ⟨rg.r.deeper _, (guards_deeper A _).trans rg.g⟩).pss
  have I := inv_start (CX := L2N.CX P w) (cd := cdv) (f := f) (E := E) S rg.r.hd e0 hl rv inn
  refine wpAny_mono (ht.run [] s1 (L2.start N vs) H { nx := fun _ H' => Q .non H', rt := Q } I ⟨startD N ds, G, _, start_rs r, rh, fun c xs env' G' cl dx σ' H' e rx rs rh' kp => q2 c xs G' cl dx H' e rx rh' kp, ⟨?_, ?_, ?_, ?_⟩, read ds G Q' Ex h⟩) (fun fl s' ends => ?_) fun _ _ z => z
  · exact fun _ G' _ H' _ b c q => q1 _ _ ⟨.non, G', .non, b, c, q⟩
  · exact fun d v G' H' a b c q => q1 _ _ ⟨d, G', a, b, c, q⟩
  · exact fun _ _ _ _ _ _ _ z => z.elim
  · exact fun _ _ _ _ _ _ _ z => z.elim
  cases fl with
  | ret u => exact let ⟨v, _, H', J, r', q⟩ := ends; ⟨v, H', J.os, J.bare, J.base, J.hok, r', q⟩
  | next => exact let ⟨_, H', J, q⟩ := ends; ⟨V.non, H', J.os, J.bare, J.base, J.hok, rfl, q⟩
  | brk => exact let ⟨_, _, _, q⟩ := ends; q.elim
  | cont => exact let ⟨_, _, _, q⟩ := ends; q.elim
end
/-! ### try .. except C as n, the suite told whether it has a field -/
/-- what the slot of the caught exception holds -/
def excD (a : Addr) (c : Nat) (ds : List D) : Option Addr → D
  | none => .ref a
  | some dd => .exc a dd c ds
def asEndsN (m : Nat) (isx : Nat → Bool) (i : Nat) (ts : Addr → Option Addr → Nat → TSd) (De : DEnds) : DEnds := { De with ex := fun c ds env' G' => (c < m ∧ isx c = true) ∧ ∀ a dx, (dx = none → ds = []) → ts a dx c (suEnds i De) (env'.set i (some (excD a c ds dx))) G' }
def wTryAsN (m : Nat) (isx : Nat → Bool) (i : Nat) (tb : TSd) (ts : Addr → Option Addr → Nat → TSd) : TSd := fun De env G => tb (asEndsN m isx i ts De) env G
section
variable {T : Tb} {X : Cx} {W : WX} {m i h : Nat} {isx : Nat → Bool} {x n : Str} {body suite : List Stmt} {b₀ : Stmt} {np pos pos' : Pos} {tb : TSd} {ts : Addr → Option Addr → Nat → TSd}
theorem q_tryAsN (hs : X.stack = X.env :: X.outer) (hf : X.env.frame = some X.env.locals) (hN : X.N.Nodup) (hi : X.N[i]? = some n) (hln : X.env.kindOf n = some .local) (hc : Names X x (.ref (T.cls h))) (tk : L2N.Takes X W)
    (hK : X.K = T.K) (hx : ∀ c, c < m → isx c = true → PySem.W.exmOne T.K (.ref (T.cls c)) (.ref (T.cls h)) = some true)
    (hb : ∀ (W' : WX) (pn : List (Addr × Obj)) (xe : Value → Shared → Prop), L2N.Takes (X.tr pn xe) W' → QSs T (X.tr pn xe) W' body tb)
    (hsu : ∀ (a : Addr) (oe : Obj) (c : Nat) (dx : Option Addr) (pn : List (Addr × Obj)), c < m → isx c = true → L2N.Zn (.ref (T.cls c)) dx oe → (∃ vs, oe.data = .fields vs) → QSs T (X.suite a ((a, oe) :: pn)) (fun _ _ _ _ => False) (b₀ :: suite) (ts a dx c)) :
    QS T X W (.Try body [.ExceptHandler (some (.Name x np)) (some n) (b₀ :: suite) pos'] [] [] pos) (wTryAsN m isx i tb ts) := by
  refine QS.of (L2N.ps_try_as (tb := fun W' => liftS T W' tb) (ts := fun a cls d => fun Dv σ H => ∃ c, cls = .ref (T.cls c) ∧ (c < m ∧ isx c = true) ∧ liftS T (fun _ _ _ _ => False) (ts a d c) Dv σ H) hs hf hN hi hln hc tk (fun W' pn xe tk' _ => (hb W' pn xe tk').pss)
    (fun a oe cls d pn hz hf' => ⟨fun pins s σ H D I ⟨c, e1, ⟨h1, h2⟩, q⟩ => ?_⟩)) fun env G De Dv σ H rs rh ex en q => ?_
  · subst e1
    exact (hsu a oe c d pn h1 h2 hz hf').pss.run pins s σ H D I q
  · refine ⟨env, G, asEndsN m isx i ts De, rs, rh, ?_, ⟨en.nx, en.rt, en.bk, en.ct⟩, q⟩
    intro c ds env' G' cl dx σ' H' ⟨hm, h1⟩ rx rs' rh' k
    have e : cl = .ref (T.cls c) := rx.1
    subst e
    refine ⟨true, by rw [hK]; exact hx c hm.1 hm.2, fun hh a ha => ?_, fun hh => absurd hh (by decide)⟩
    have key : ∀ dx, (dx = none → ds = []) → RV T G' H' (excD a c ds dx) (.ref a) → ∃ c1, Value.ref (T.cls c) = .ref (T.cls c1) ∧ (c1 < m ∧ isx c1 = true) ∧ liftS T (fun _ _ _ _ => False) (ts a dx c1) { nx := fun σ1 H1 => Dv.nx (σ1.set i none) H1, rt := Dv.rt, bk := fun σ1 H1 => Dv.bk (σ1.set i none) H1, ct := fun σ1 H1 => Dv.ct (σ1.set i none) H1 } (σ'.set i (some (.ref a))) H' := fun dx hd r0 => by
      refine ⟨c, rfl, hm, _, G', suEnds i De, rs'.set i r0, rh', fun _ _ _ _ _ _ _ _ z => z.elim, ⟨?_, ?_, ?_, ?_⟩, h1 a dx hd⟩
      · exact fun e2 G2 σ2 H2 r2 rh2 k2 q2 => en.nx _ _ _ _ (r2.unset i) rh2 (k.trans k2) q2
      · exact fun d v G2 H2 r2 rh2 k2 q2 => en.rt _ _ _ _ r2 rh2 (k.trans k2) q2
      · exact fun e2 G2 σ2 H2 r2 rh2 k2 q2 => en.bk _ _ _ _ (r2.unset i) rh2 (k.trans k2) q2
      · exact fun e2 G2 σ2 H2 r2 rh2 k2 q2 => en.ct _ _ _ _ (r2.unset i) rh2 (k.trans k2) q2
    obtain ⟨_, ⟨rfl, rfl⟩ | ⟨dd, xs, rfl, g, hd, hl, rr⟩⟩ := rx
    · exact key none (fun _ => rfl) (.ref a)
    · exact key (some dd) (fun z => nomatch z) (.exc g hd hl rr)
end
end DL
set_option Elab.async false
set_option linter.all false
set_option maxRecDepth 100000
set_option maxHeartbeats 4000000
/-! within a suite: own defs called, isinstance, fields; exceptions as values -/
namespace DL
open PySem PySem.Spec PyProof.Rows L2
/-- the context stands where p is handled -/
structure HotP (X : Cx) (p : Addr × Obj) : Prop where
  hot : L2H.Hot1 X.A p
  mem : p ∈ X.pn
structure RoomHG (k : Nat) (A : Around) : Prop where
  r : L2H.RoomH k A
  g : A.guards = some []
theorem RoomHG.hu {k : Nat} {A : Around} (r : RoomHG k A) : A.units + 64 < cLine := by
  have := r.r.un
  omega
theorem RoomHG.of {k : Nat} {A : Around} (r : RoomG k A) (h : Option Value) : RoomHG k (A.mark h) := ⟨⟨r.r.dp, r.r.un⟩, r.g⟩
/-- a def that is called where p is handled -/
structure FnHG (P : Program) (w : World) (K : PySem.W.Frag) (mg : Str → Option Value) (base : Heap) (k : Nat) (f : Addr) (fd : FuncData) (ps : List Str) (p : Addr × Obj) (sp : Sp) : Prop where
  len : ∀ vs H Q E, sp vs H Q E → vs.length = ps.length
  run : ∀ (A : Around) (outer : List Env) (s : Shared) (H : Hp) (args : Args) (us : List Value) (vs : List V) (Q : VK) (E : XK), RoomHG k A → L2H.Hot1 A p → L2H.PinOk outer H s p → Env0 P w K mg base A outer s H → BindsTo s fd args (ps.zip us) → Vals vs us → sp vs H Q E →
    codeAny (model P w) A (.call (.ref f) args) (CR CX0 outer P w H s Q E) s
theorem okFH {T : Tb} {P : Program} {w : World} {mg : Str → Option Value} {base : Heap} {k : Nat} {x qual : Str} {params : Arguments} {st : List Stmt} {scope : Scope} {dvs : List V} {kws : List (Str × V)} {f : Addr} {fd : FuncData} {N ps : List Str} {sp : DSp} {t : TSd} {p : Addr × Obj}
    (F : FunD T.K x qual params st scope dvs kws f fd) (S : FnScope N ps scope) (len : ∀ ds G Q Ex, sp ds G Q Ex → ds.length = ps.length)
    (body : ∀ (cdv : Value) (A : Around) (outer : List Env) (s : Shared) (H : Hp) (E : XK), RoomHG k (A.deeper (envOfC qual scope s.heap.objs.size f cdv)) → HotP (L2H.cxH CX0 P w T.K mg base N qual scope f cdv A outer s H E p) p →
      QSs T (L2H.cxH CX0 P w T.K mg base N qual scope f cdv A outer s H E p) W0 st t)
    (read : ∀ ds G Q Ex, sp ds G Q Ex → t { nx := fun _ G' => Q .non G', rt := Q, bk := fun _ _ => False, ct := fun _ _ => False, ex := fun _ _ _ _ => False } (startD N ds) G) :
    FnHG P w T.K mg base (k + 1) f fd ps p (liftSp T sp) := by
  obtain ⟨oc, od, dV, kV, doc, pm, an, cdv, ct, osl, rfl, lk, hcd, _, _⟩ := F.ex
  refine ⟨fun vs H Q E ⟨ds, G, Q', Ex, r, _, h, _⟩ => r.length.symm.trans (len _ _ _ _ h), fun A outer s H args us vs Q E rg hot po e0 bind rv ⟨ds, G, Q', Ex, r, rh, h, q1, q2⟩ => ?_⟩
  have hl : vs.length = ps.length := r.length.symm.trans (len _ _ _ _ h)
  have here : ∀ b o, base.get? b = some o → s.heap.get? b = some o := fun b o e => (e0.bs b o e).1
  have KX : T.K.In s.heap := e0.mod.kin.keeps here
  have scopes : ∀ y ∈ ps.zip us, scope.names.lookup y.1 = some .local ∨ (scope.names.lookup y.1 = some .cell ∧ ((cellsFrom (s.heap.objs.size + 1) scope.names []).lookup y.1).isSome = true) := by
    rintro ⟨n, v⟩ hy
    rcases S.par n (List.of_mem_zip hy).1 with q | q
    · exact .inl q
    · exact .inr ⟨q, PySem.W.cellsFrom_some _ _ _ (.inl q)⟩
  refine codeAny_call_function rg.r.depth (KX _ _ lk) rfl S.co S.gen rfl (PySem.W.codeRec_of KX hcd) (bind _ _ _ _ ?_)
  refine wpAny_newFunctionEnv_cells S.kind scopes fun env he s1 inn => ?_
  subst he
  refine ⟨(e0.mod.nolimit.keeps here).keeps inn.toInCall.keep, codeAny_func ?_⟩
  have hot' : HotP (L2H.cxH CX0 P w T.K mg base N qual scope f cdv A outer s H E p) p := ⟨by
    show L2H.Hot1 (A.deeper _) p
    exact hot, List.mem_singleton.mpr rfl⟩
  have ht := (body cdv A outer s H E ⟨rg.r.deeper _, (guards_deeper A _).trans rg.g⟩ hot').pss
  have I := L2H.inv_startH (CX := CX0) (cd := cdv) (f := f) (E := E) S po e0 hl rv inn
  refine wpAny_mono (ht.run [] s1 (L2.start N vs) H { nx := fun _ H' => Q .non H', rt := Q } I ⟨startD N ds, G, { nx := fun _ G' => Q' .non G', rt := Q', bk := fun _ _ => False, ct := fun _ _ => False, ex := fun _ _ _ _ => False }, start_rs r, rh, fun _ _ _ _ _ _ _ _ z => z.elim, ⟨?_, ?_, ?_, ?_⟩, read ds G Q' Ex h⟩) (fun fl s' ends => ?_) fun _ _ z => z
  · exact fun _ G' _ H' _ b c q => q1 _ _ ⟨.non, G', .non, b, c, q⟩
  · exact fun d v G' H' a b c q => q1 _ _ ⟨d, G', a, b, c, q⟩
  · exact fun _ _ _ _ _ _ _ z => z.elim
  · exact fun _ _ _ _ _ _ _ z => z.elim
  cases fl with
  | ret u => exact let ⟨v, _, H', J, r', q⟩ := ends; ⟨v, H', J.os, J.bare, J.base, J.hok, r', q⟩
  | next => exact let ⟨_, H', J, q⟩ := ends; ⟨V.non, H', J.os, J.bare, J.base, J.hok, rfl, q⟩
  | brk => exact let ⟨_, _, _, q⟩ := ends; q.elim
  | cont => exact let ⟨_, _, _, q⟩ := ends; q.elim
/-- such a def, by its name -/
structure CalH (T : Tb) (P : Program) (w : World) (mg : Str → Option Value) (base : Heap) (x : Str) (k : Nat) (n : Nat) (p : Addr × Obj) (sp : DSp) : Prop where
  ex : ∃ f fd ps, ps.length = n ∧ FnHG P w T.K mg base k f fd ps p (liftSp T sp) ∧ mg x = some (.ref f) ∧ PySem.W.keepIn T.K (.ref f) = true ∧ Binds T.K fd ps []
section
variable {T : Tb} {X : Cx} {W : WX} {k n : Nat} {sp : DSp} {x : Str} {p pos : Pos} {e : Expr} {es : List Expr} {u : TAd} {te : TEd} {f : Addr} {fd : FuncData} {ps : List Str} {po : Addr × Obj}
theorem pinAt {pins : List (Addr × Obj)} {σ : List (Option V)} {H : Hp} {s : Shared} (I : Inv X pins σ H s) (hp : po ∈ X.pn) : L2H.PinOk X.stack H s po := by
  obtain ⟨h1, h2, h3, h4, h5⟩ := I.pin po (List.mem_append_left _ hp)
  refine ⟨h1, h2, fun hb => ?_, h5⟩
  rcases List.mem_cons.mp (I.stkSub _ hb) with e | e
  · exact h3 e
  · exact h4 e
theorem run_GH {pins : List (Addr × Obj)} {σ : List (Option V)} {H : Hp} {s : Shared} {Q : VK} {us : List Value} {vs : List V} {sp : Sp} {E : XK} (hp : HotP X po) (F : FnHG X.prog X.w X.K X.mg X.base k f fd ps po sp) (hr : RoomHG k X.A) (hb : Binds X.K fd ps [])
    (I : Inv X pins σ H s) (r : Vals vs us) (h : sp vs H Q E) : wpAny (model X.prog X.w) X.A (call (.ref f) us) (EP X pins σ Q) X.xe s := by
  have r2 := r.append (.nil : Vals [] [])
  rw [List.append_nil, List.append_nil] at r2
  have hl : us.length = ps.length := r2.length.symm.trans (F.len _ _ _ _ h)
  have hb' := hb s us I.kIn (by rw [List.append_nil]; exact hl)
  rw [List.append_nil] at hb'
  refine wpAny_call (codeAny_mono (F.run X.A X.stack s H ⟨us, []⟩ us vs Q E hr hp.hot (pinAt I hp.mem) I.env0 hb' r2 h) fun res s' hq => ?_)
  rcases res with er | (fl | fl | fl | fl)
  · exact False.elim hq
  all_goals first | exact I.after hq | exact False.elim hq
theorem qclH (hp : HotP X po) (hK : X.K = T.K) (C : CalH T X.prog X.w X.mg X.base x k n po sp) (hr : RoomHG k X.A) (hg : Gl X x)
    (ha : QA T X W (e :: es) u) (hdb : (x == ("__debug__" : Str)) = false := by decide) (he : starEach (e :: es) X.env = (false, eval e X.env) :: starEach es X.env := by rfl) (hpl : (backTo pos (starEach es X.env)).any (·.1) = false := by rfl) :
    QE T X W (.Call (.Name x p) (e :: es) [] pos) (wFn sp u) := by
  obtain ⟨f, fd, ps, _, F, hm, hk, hb⟩ := C.ex
  rw [← hK] at F hk hb
  exact ⟨⟨fun pins s σ H Qv I ⟨env, G, Q, Ex, rs, rh, ex, q, kq⟩ => by
    refine wpAny_Call_Name_kw (ld_glob I hg hm ?_ hdb)
    have q' : liftA T W u σ H (fun vs H1 => liftSp T sp vs H1 Qv (WE W σ)) := intoA rs rh ex q fun ds vs G1 H1 rds rh1 k1 q1 =>
      intoSp rds rh1 (ex.keep k1) q1 fun d v G' H' a b c d' => kq v H' ⟨d, G', a, b, k1.trans c, d'⟩
    refine PySem.W.callWith_K (h₀ := X.base) I.ok.mod.kin hk (thn (ha.pa.run pos pins s σ H _ I q') fun us s1 ⟨vs, H1, I1, r, q2⟩ => ⟨I1.kIn, ?_⟩) he hpl
    exact run_GH hp F hr hb I1 r q2⟩⟩
end
/-! ### isinstance of an exception -/
/-- what isinstance asks of an exception's class -/
structure XBase (K : PySem.W.Frag) (C : Addr) : Prop where
  cl : (PySem.W.clsIn K C).isSome = true
  xf : XfC K C
  ca : PySem.W.findIn K (.ref C) "__class__" = some (some (.builtin "object.__class__"))
  cn : PySem.W.specialIn K (.builtin "object.__class__") "__get__" = some (some (.builtin "getset_descriptor.__get__"))
  ct : PySem.W.takesIn K (.builtin "object.__class__") = some true
  cm : PySem.W.mroIn K C (.type "object") = some true
def xbaseB (K : PySem.W.Frag) (C : Addr) : Bool :=
  (PySem.W.clsIn K C).isSome && (xfB K C && (decide (PySem.W.findIn K (.ref C) "__class__" = some (some (.builtin "object.__class__"))) && (decide (PySem.W.specialIn K (.builtin "object.__class__") "__get__" = some (some (.builtin "getset_descriptor.__get__"))) &&
      (decide (PySem.W.takesIn K (.builtin "object.__class__") = some true) && decide (PySem.W.mroIn K C (.type "object") = some true)))))
theorem xbaseB_ok {K : PySem.W.Frag} {C : Addr} (h : xbaseB K C = true) : XBase K C := by
  obtain ⟨h1, h⟩ := Bool.and_eq_true_iff.mp h
  obtain ⟨h2, h⟩ := Bool.and_eq_true_iff.mp h
  obtain ⟨h3, h⟩ := Bool.and_eq_true_iff.mp h
  obtain ⟨h4, h⟩ := Bool.and_eq_true_iff.mp h
  obtain ⟨h5, h6⟩ := Bool.and_eq_true_iff.mp h
  exact ⟨h1, xfB_ok h2, of_decide_eq_true h3, of_decide_eq_true h4, of_decide_eq_true h5, of_decide_eq_true h6⟩
/-- what stands in a slot that holds the exception at a -/
def excAt (a : Addr) (c : Nat) (dx : Option Addr) (x : D) : Prop := ∃ ds, x = excD a c ds dx
def wIsP (a : Addr) (c : Nat) (dx : Option Addr) (b : Bool) (te : TEd) : TEd := fun env G Q Ex => te env G (fun x G1 => excAt a c dx x ∧ Q (.bl b) G1) Ex
/-- an exception that is a value -/
def wIsR (m : Nat) (b : Nat → Bool) (te : TEd) : TEd := fun env G Q Ex => te env G (fun x G1 => ∃ a c, x = .ref a ∧ G1 a = some (.exo c) ∧ c < m ∧ Q (.bl (b c)) G1) Ex
def wExc1 (c : Nat) (te : TEd) : TEd := fun env G Q Ex => te env G (fun _ G1 => ∀ a, G1 a = none → Q (.ref a) (gset G1 a (.exo c))) Ex
/-- the field f is the i-th of the class -/
def wXfP (flds : Nat → List Str) (a : Addr) (c : Nat) (dx : Option Addr) (f : Str) (te : TEd) : TEd := fun env G Q Ex => te env G (fun x G1 => ∃ dd ds, dx = some dd ∧ x = .exc a dd c ds ∧ ∃ (i : Nat) (d : D), (∀ (xs : List V) (w : V), xs.length = (flds c).length → xs[i]? = some w → ((flds c).zip xs).lookup f = some w) ∧ ds[i]? = some d ∧ Q d G1) Ex
section
variable {T : Tb} {X : Cx} {W : WX} {a : Addr} {c : Nat} {dx : Option Addr} {oe : Obj} {b : Bool} {tv : Value} {e : Expr} {te : TEd} {f x : Str} {p p2 pos : Pos}
def HasX (H : Hp) : Option Addr → Prop
  | none => True
  | some dd => ∃ fs, H dd = some (.xd fs)
theorem inst_at {pins : List (Addr × Obj)} {σ : List (Option V)} {H : Hp} {s : Shared} (I : Inv X pins σ H s) {C : Addr} (hget : s.heap.get? a = some oe) (hz : Zc (.ref C) dx oe) (hf : ∃ vs, oe.data = .fields vs) (h : HasX H dx) :
    ∃ od, PySem.W.InstAt s.heap a oe C od := by
  obtain ⟨vs, hv⟩ := hf
  have hn : PySem.W.notCls oe = true := by unfold PySem.W.notCls; rw [hv] <;> rfl
  cases dx with
  | none => exact ⟨none, hget, hz.1, hn, by rw [hz.2]; trivial⟩
  | some dd =>
    obtain ⟨fs, hx⟩ := h
    have hx' : ObjOk X.prog X.w H s.heap dd (.xd fs) := I.hok dd _ hx
    obtain ⟨mA, hns, hr⟩ := hx'
    obtain ⟨od, ho, hl⟩ := lookIn_ns hns
    exact ⟨some od, hget, hz.1, hn, by rw [hz.2]; exact ho⟩
theorem call_isP (hK : X.K = T.K) (xb : XBase T.K (T.cls c)) (hk : PySem.W.kitOne T.K (.ref (T.cls c)) tv = some b) (hm : (a, oe) ∈ X.pn) (hz : Zc (.ref (T.cls c)) dx oe) (hf : ∃ vs, oe.data = .fields vs) :
    CallR X (.builtin "isinstance") (fun xs H Q => ∃ t, xs = [.ref a, t] ∧ (∀ u, RelV t u → u = tv) ∧ HasX H dx ∧ Q (.bl b) H) := by
  intro pins s σ H xs us Q I r ⟨t, e1, e2, hx, q⟩
  subst e1
  cases r with
  | cons rx rr =>
    cases rr with
    | cons rt rr =>
      cases rr
      cases rx
      have := e2 _ rt
      subst this
      obtain ⟨hget, _⟩ := I.pin (a, oe) (List.mem_append_left _ hm)
      obtain ⟨od, J⟩ := inst_at I hget hz hf hx
      have KI : T.K.In s.heap := hK ▸ I.kIn
      exact PySem.W.kia_one (PySem.W.kitx_exc xb.cl xb.xf.ga xb.xf.gg xb.xf.exC xb.ca xb.cn xb.ct xb.cm) KI J hk (fun z => nomatch z) fun tk => ⟨.bl b, H, I.kept (t' := tk) fun _ _ z => z, rfl, q⟩
theorem excAt_v {G : GH} {H : Hp} {d : D} {v : V} (h : excAt a c dx d) (r : RV T G H d v) : v = .ref a ∧ HasX H dx := by
  obtain ⟨ds, rfl⟩ := h
  cases dx with
  | none =>
    unfold excD at r
    cases r
    exact ⟨rfl, trivial⟩
  | some dd =>
    unfold excD at r
    cases r with
    | exc g hx hl rr => exact ⟨rfl, _, hx⟩
theorem q_isP {c' : Nat} (hK : X.K = T.K) (xb : XBase T.K (T.cls c)) (hk : PySem.W.kitOne T.K (.ref (T.cls c)) (.ref (T.cls c')) = some b) (hp : (a, oe) ∈ X.pn) (hz : Zc (.ref (T.cls c)) dx oe) (hf : ∃ vs, oe.data = .fields vs) (hm : X.mg "isinstance" = none) (hx : X.mg x = some (.ref (T.cls c')))
    (he : QE T X W e te) (hg : Gl X "isinstance" := by rfl) (hgx : Gl X x := by rfl) (hd : (x == ("__debug__" : Str)) = false := by decide)
    (hs1 : starEach [e, .Name x p2] X.env = (false, eval e X.env) :: starEach [.Name x p2] X.env := by rfl) (hs2 : starEach [.Name x p2] X.env = (false, eval (.Name x p2) X.env) :: starEach [] X.env := by rfl)
    (hpl : (backTo pos (starEach [.Name x p2] X.env)).any (·.1) = false := by rfl) : QE T X W (.Call (.Name "isinstance" p) [e, .Name x p2] [] pos) (wIsP a c dx b te) :=
  QE.of (pe_callB (call_isP hK xb hk hp hz hf) hg hm rfl (pa_cons he.pe (pa_cons (pe_glob (v := .ref (T.cls c')) hgx hx rfl hd) pa_nil hs2) hs1) (by decide) (by decide) hs1 hpl) fun env G σ H Q Ex Qv rs rh ex q k => intoE rs rh ex q fun d v G1 H1 rd rh1 k1 ⟨h1, q1⟩ => by
    obtain ⟨rfl, h2⟩ := excAt_v h1 rd
    exact ⟨.ref (T.cls c'), rfl, fun u r => by cases r; rfl, h2, k _ _ G1 H1 (.bl _) rh1 k1 q1⟩
theorem q_isPB {n' : String} (hK : X.K = T.K) (xb : XBase T.K (T.cls c)) (hk : PySem.W.kitOne T.K (.ref (T.cls c)) (.type n') = some b) (hp : (a, oe) ∈ X.pn) (hz : Zc (.ref (T.cls c)) dx oe) (hf : ∃ vs, oe.data = .fields vs) (hm : X.mg "isinstance" = none) (hx : X.mg x = none) (hv : bootBuiltins x = some (.type n'))
    (he : QE T X W e te) (hg : Gl X "isinstance" := by rfl) (hgx : Gl X x := by rfl) (hn : x ≠ "__name__" := by decide) (hd : (x == ("__debug__" : Str)) = false := by decide)
    (hs1 : starEach [e, .Name x p2] X.env = (false, eval e X.env) :: starEach [.Name x p2] X.env := by rfl) (hs2 : starEach [.Name x p2] X.env = (false, eval (.Name x p2) X.env) :: starEach [] X.env := by rfl)
    (hpl : (backTo pos (starEach [.Name x p2] X.env)).any (·.1) = false := by rfl) : QE T X W (.Call (.Name "isinstance" p) [e, .Name x p2] [] pos) (wIsP a c dx b te) :=
  QE.of (pe_callB (call_isP hK xb hk hp hz hf) hg hm rfl (pa_cons he.pe (pa_cons (pe_bltn (v := .ty n') hgx hx hv rfl hn hd) pa_nil hs2) hs1) (by decide) (by decide) hs1 hpl) fun env G σ H Q Ex Qv rs rh ex q k => intoE rs rh ex q fun d v G1 H1 rd rh1 k1 ⟨h1, q1⟩ => by
    obtain ⟨rfl, h2⟩ := excAt_v h1 rd
    exact ⟨.ty n', rfl, fun u r => by cases r; rfl, h2, k _ _ G1 H1 (.bl _) rh1 k1 q1⟩
/-- an exception that is a value -/
theorem call_isR {bf : Nat → Bool} {okc : Nat → Prop} (hK : X.K = T.K) (xb : ∀ c, okc c → XBase T.K (T.cls c)) (hk : ∀ c, okc c → PySem.W.kitOne T.K (.ref (T.cls c)) tv = some (bf c)) :
    CallR X (.builtin "isinstance") (fun xs H Q => ∃ a c t, xs = [.ref a, t] ∧ (∀ u, RelV t u → u = tv) ∧ okc c ∧ H a = some (ExO (.ref (T.cls c)) a) ∧ Q (.bl (bf c)) H) := by
  intro pins s σ H xs us Q I r ⟨a, c, t, e1, e2, hc, hx, q⟩
  subst e1
  cases r with
  | cons rx rr =>
    cases rr with
    | cons rt rr =>
      cases rr
      cases rx
      have := e2 _ rt
      subst this
      have h0 : ∃ oe vs, s.heap.get? a = some oe ∧ Zc (.ref (T.cls c)) none oe ∧ oe.data = .fields vs ∧ vs[1]? = some Value.none ∧ vs[2]? = some Value.none ∧ 4 < vs.size := by
        have h0 := I.hok a _ hx
        unfold ExO ObjOk at h0
        exact h0.1
      obtain ⟨oe, vs, hget, hz, hd, _⟩ := h0
      obtain ⟨od, J⟩ := inst_at I hget hz ⟨vs, hd⟩ trivial
      have KI : T.K.In s.heap := hK ▸ I.kIn
      have xb := xb c hc
      exact PySem.W.kia_one (PySem.W.kitx_exc xb.cl xb.xf.ga xb.xf.gg xb.xf.exC xb.ca xb.cn xb.ct xb.cm) KI J (hk c hc) (fun z => nomatch z) fun tk => ⟨.bl (bf c), H, I.kept (t' := tk) fun _ _ z => z, rfl, q⟩
theorem q_isR {m : Nat} {bf : Nat → Bool} {c' : Nat} (hK : X.K = T.K) (xb : ∀ c, c < m → XBase T.K (T.cls c)) (hk : ∀ c, c < m → PySem.W.kitOne T.K (.ref (T.cls c)) (.ref (T.cls c')) = some (bf c)) (hm : X.mg "isinstance" = none) (hx : X.mg x = some (.ref (T.cls c')))
    (he : QE T X W e te) (hg : Gl X "isinstance" := by rfl) (hgx : Gl X x := by rfl) (hd : (x == ("__debug__" : Str)) = false := by decide)
    (hs1 : starEach [e, .Name x p2] X.env = (false, eval e X.env) :: starEach [.Name x p2] X.env := by rfl) (hs2 : starEach [.Name x p2] X.env = (false, eval (.Name x p2) X.env) :: starEach [] X.env := by rfl)
    (hpl : (backTo pos (starEach [.Name x p2] X.env)).any (·.1) = false := by rfl) : QE T X W (.Call (.Name "isinstance" p) [e, .Name x p2] [] pos) (wIsR m bf te) :=
  QE.of (pe_callB (call_isR (okc := fun c => c < m) hK xb hk) hg hm rfl (pa_cons he.pe (pa_cons (pe_glob (v := .ref (T.cls c')) hgx hx rfl hd) pa_nil hs2) hs1) (by decide) (by decide) hs1 hpl) fun env G σ H Q Ex Qv rs rh ex q k => intoE rs rh ex q fun d v G1 H1 rd rh1 k1 ⟨a, c, e1, g, hc, q1⟩ => by
    subst e1
    cases rd
    exact ⟨a, c, .ref (T.cls c'), rfl, fun u r => by cases r; rfl, hc, rh1 a _ g, k _ _ G1 H1 (.bl _) rh1 k1 q1⟩
theorem q_isRB {m : Nat} {bf : Nat → Bool} {n' : String} (hK : X.K = T.K) (xb : ∀ c, c < m → XBase T.K (T.cls c)) (hk : ∀ c, c < m → PySem.W.kitOne T.K (.ref (T.cls c)) (.type n') = some (bf c)) (hm : X.mg "isinstance" = none) (hx : X.mg x = none) (hv : bootBuiltins x = some (.type n'))
    (he : QE T X W e te) (hg : Gl X "isinstance" := by rfl) (hgx : Gl X x := by rfl) (hn : x ≠ "__name__" := by decide) (hd : (x == ("__debug__" : Str)) = false := by decide)
    (hs1 : starEach [e, .Name x p2] X.env = (false, eval e X.env) :: starEach [.Name x p2] X.env := by rfl) (hs2 : starEach [.Name x p2] X.env = (false, eval (.Name x p2) X.env) :: starEach [] X.env := by rfl)
    (hpl : (backTo pos (starEach [.Name x p2] X.env)).any (·.1) = false := by rfl) : QE T X W (.Call (.Name "isinstance" p) [e, .Name x p2] [] pos) (wIsR m bf te) :=
  QE.of (pe_callB (call_isR (okc := fun c => c < m) hK xb hk) hg hm rfl (pa_cons he.pe (pa_cons (pe_bltn (v := .ty n') hgx hx hv rfl hn hd) pa_nil hs2) hs1) (by decide) (by decide) hs1 hpl) fun env G σ H Q Ex Qv rs rh ex q k => intoE rs rh ex q fun d v G1 H1 rd rh1 k1 ⟨a, c, e1, g, hc, q1⟩ => by
    subst e1
    cases rd
    exact ⟨a, c, .ty n', rfl, fun u r => by cases r; rfl, hc, rh1 a _ g, k _ _ G1 H1 (.bl _) rh1 k1 q1⟩
/-- C(x), an exception as a value -/
theorem q_exc1 (hK : X.K = T.K) (C : CalX0 T X.mg x c) (he : QE T X W e te) (hg : Gl X x := by rfl) (hs : starEach [e] X.env = (false, eval e X.env) :: starEach [] X.env := by rfl) (hdb : (x == ("__debug__" : Str)) = false := by decide) :
    QE T X W (.Call (.Name x p) [e] [] pos) (wExc1 c te) := by
  obtain ⟨bmB, newId, h1, B, initId, F⟩ := C.ex
  have k := C.k
  rw [← hK] at h1 k
  refine QE.of (pe_exc1 F h1 C.g k hg he.pe hs hdb) fun env G σ H Q Ex Qv rs rh ex q kk => intoE rs rh ex q fun d v G1 H1 rd rh1 k1 q1 a ha => ?_
  exact kk (.ref a) _ _ _ (.ref a) (rh1.newG (d := .exo c) ha upd_same) (k1.trans (Keep.newG ha)) (q1 a (rh1.fresh ha))
/-- e.f of the exception that is handled -/
theorem q_xfP {L : Nat → List Str} (hK : X.K = T.K) (hL : T.flds = L) (xb : XfC T.K (T.cls c)) (hno : PySem.W.findIn T.K (.ref (T.cls c)) f = some none) (hp : (a, oe) ∈ X.pn) (hz : Zc (.ref (T.cls c)) dx oe) (hf : ∃ vs, oe.data = .fields vs)
    (he : QE T X W e te) (hb : attributeBase e f X.env (eval e X.env) = eval e X.env := by rfl) : QE T X W (.Attribute e f pos) (wXfP L a c dx f te) := by
  subst hL
  refine ⟨⟨fun pins s σ H Qv I ⟨env, G, Q, Ex, rs, rh, ex, q, kq⟩ => ?_⟩⟩
  refine attr_of hb (thn (he.pe.run pins s σ H (fun v H1 => v = .ref a ∧ ∃ dd fs v1, dx = some dd ∧ H1 dd = some (.xd fs) ∧ fs.lookup f = some v1 ∧ Qv v1 H1) I (intoE rs rh ex q fun d v G1 H1 rd rh1 k1 ⟨dd, ds, e1, e2, i, x, e3, e4, q1⟩ => ?_)) fun u s1 ⟨v, H1, I1, rv, ev, dd, fs, v1, ed, hx, hl, q1⟩ => ?_)
  · subst e1 e2
    cases rd with
    | @exc _ _ _ xs _ g hx hl rr =>
      obtain ⟨w, hw, rw'⟩ := rr.get e4
      refine ⟨rfl, dd, _, w, rfl, hx, ?_, kq _ _ ⟨x, G1, rw', rh1, k1, q1⟩⟩
      exact e3 xs w hl hw
  · subst ev ed
    cases rv
    obtain ⟨hget, _⟩ := I1.pin (a, oe) (List.mem_append_left _ hp)
    have hx' : ObjOk X.prog X.w H1 s1.heap dd (.xd fs) := I1.hok dd _ hx
    obtain ⟨mA, hns, hr⟩ := hx'
    obtain ⟨od, ho, hlk⟩ := lookIn_ns hns
    obtain ⟨vs, hv⟩ := hf
    have J : PySem.W.InstAt s1.heap a oe (T.cls c) (some od) := ⟨hget, hz.1, by unfold PySem.W.notCls; rw [hv] <;> rfl, by rw [hz.2]; exact ho⟩
    have h2 := hr f
    rw [hl] at h2
    obtain ⟨u1, eu, ru⟩ := RelO.some_of h2
    have KI : T.K.In s1.heap := hK ▸ I1.kIn
    exact PySem.HandSPX.exc_get KI J xb.ga xb.gg xb.exC (PySem.W.findObj_own xb.hdC hno rfl ((hlk f).trans (congrArg some eu))) (handed_of ru) ⟨v1, H1, I1.tok _, ru, q1⟩
end
end DL
set_option Elab.async false
set_option linter.all false
set_option maxRecDepth 100000
set_option maxHeartbeats 4000000
/-! a list comprehension where an exception is handled -/
namespace DL
open PySem PySem.Spec PyProof.Rows L2
abbrev blkP (X : Cx) (p : Addr × Obj) (s : Shared) (H : Hp) (scope : Scope) (cenv : Env) (fp : List Addr) : Cx := { X.blk s H scope cenv fp with pn := [p] }
theorem inv_pn {Y : Cx} {pn : List (Addr × Obj)} {σ : List (Option V)} {H : Hp} {s : Shared} (I : Inv Y [] σ H s) (h : ∀ p ∈ pn, s.heap.get? p.1 = some p.2 ∧ H p.1 = none ∧ p.1 ≠ Y.env.locals ∧ p.1 ∉ Y.fs ∧ ∀ v, p.2.data ≠ .cell v) : Inv { Y with pn := pn } [] σ H s := by
  have o := I.ok
  have o' : Cx.Ok { Y with pn := pn } := ⟨o.mod, o.kind, o.glob, o.blt, o.above, o.inj, o.has, o.cab, o.hd, o.frames, o.stk, o.exf, o.bs, o.bsz, o.noex, o.exfs, o.funs, o.frf⟩
  exact ⟨o', I.os, I.bare, I.base, I.loc, I.cell, I.free, I.freeC, fun p hp => h p (by simpa using hp), I.hok, I.len⟩
section
variable {X : Cx} {p : Addr × Obj} {elt tg iter : Expr} {ifs : List Expr} {scope : Scope} {own : List (Str × Nat)} {pos : Pos} {wi : TI} {g : TG} {tt : TT} {te : TE}
theorem pe_lcP (hp : HotP X p) (hN : X.N.Nodup) (hi : L2H.PIH X tg iter wi) (ok : BlkOk X.N X.env.scope scope own)
    (hg : ∀ (s : Shared) (H : Hp) (C : Addr) (cl : List (Str × Addr)) (fp : List Addr), PG (blkP X p s H scope (compEnvC scope cl C X.env) fp) tg g) (ht : ∀ (s : Shared) (H : Hp) (C : Addr) (cl : List (Str × Addr)) (fp : List Addr), PTs (blkP X p s H scope (compEnvC scope cl C X.env) fp) ifs tt)
    (he : ∀ (s : Shared) (H : Hp) (C : Addr) (cl : List (Str × Addr)) (fp : List Addr), PE (blkP X p s H scope (compEnvC scope cl C X.env) fp) elt te) (hs : ∀ x, foldedSetIterable iter X.env x = pure x := by intro _; rfl) :
    PE X (.ListComp elt [⟨tg, iter, ifs, 0⟩] scope pos) (tLc wi g tt te (own.map (·.2))) := by
  refine ⟨fun pins s σ H Q I h => ?_⟩
  rw [eval_ListComp]
  have hfree : ∀ y ∈ scope.names, y.2 = .free → ∃ c, X.env.cells.lookup y.1 = some c := fun y hy e => I.ok.has y.1 (ok.free y hy e)
  refine wpAny_comprehension_free rfl hs (closure_ok hfree) ok.kind (fun y hy e => by rw [ok.uniq y hy, e]) (thn (hi.run pins s σ H _ I h) fun xv s1 hx => thn hx fun itv s2 ⟨it, fp, tn, J, H2, e, I2, T, st2, f2, q⟩ => ?_)
  subst e
  refine wpAny_newObj_type (newEnv_comp ?_)
  obtain ⟨hp2, gens, drawn, toks, os⟩ := s2
  have hDn : H2 hp2.objs.size = none := I2.hok.fresh (Nat.le_refl _)
  obtain ⟨W, ⟨m0, w0⟩, turn⟩ := q _ hDn
  have I3 : Inv X pins σ (upd H2 hp2.objs.size (.lst [])) ⟨hp2.push { cls := .type "list", data := .seq #[] }, gens, drawn, toks, os⟩ :=
    I2.laid (t' := toks) (fun b u e => Heap.get?_push_of_some _ e) (Nat.le_refl _) ⟨Nat.zero_le _, [], 0, .nil, Heap.get?_push_size _ rfl⟩
  have sz : ∀ b ∈ fp, b < hp2.objs.size := fun b hb => let ⟨o, e, _⟩ := T.obj 0 _ st2 b hb; Heap.lt_size e
  have f3 : ∀ b ∈ fp, FpOk X pins (upd H2 hp2.objs.size (.lst [])) b ∧ b < (hp2.push { cls := .type "list", data := .seq #[] }).objs.size := fun b hb =>
    ⟨⟨by rw [upd_ne (Nat.ne_of_lt (sz b hb))]; exact (f2 b hb).1, (f2 b hb).2⟩, by rw [Heap.size_push]; exact Nat.lt_succ_of_lt (sz b hb)⟩
  have I4 := block_start I3 ok hN f3
  have po := pinAt I3 hp.mem
  have I4' := inv_pn (pn := [p]) I4 fun q hq => by
    rw [List.mem_singleton] at hq
    subst hq
    exact ⟨pushCells_keeps _ _ _ _ (Heap.get?_push_of_some _ po.get), po.free, Nat.ne_of_lt (Heap.lt_size po.get), po.nofs, po.nocell⟩
  have st4 : tn 0 (pushCells ((hp2.push { cls := .type "list", data := .seq #[] }).push { cls := .type "dict", data := .dict #[] }) scope.names) := T.keep 0 _ _ st2 fun b _ o e => pushCells_keeps _ _ _ _ (Heap.get?_push_of_some _ (Heap.get?_push_of_some _ e))
  have nfp : ∀ b ∈ fp, (upd H2 hp2.objs.size (.lst [])) b = none := fun b hb => (f3 b hb).1.1
  have pg := hg ⟨hp2.push { cls := .type "list", data := .seq #[] }, gens, drawn, toks, os⟩ (upd H2 hp2.objs.size (.lst [])) (hp2.push { cls := .type "list", data := .seq #[] }).objs.size (cellsFrom ((hp2.push { cls := .type "list", data := .seq #[] }).objs.size + 1) scope.names (cloFrom X.env.cells scope.names [])) fp
  have pt := ht ⟨hp2.push { cls := .type "list", data := .seq #[] }, gens, drawn, toks, os⟩ (upd H2 hp2.objs.size (.lst [])) (hp2.push { cls := .type "list", data := .seq #[] }).objs.size (cellsFrom ((hp2.push { cls := .type "list", data := .seq #[] }).objs.size + 1) scope.names (cloFrom X.env.cells scope.names [])) fp
  have pe := he ⟨hp2.push { cls := .type "list", data := .seq #[] }, gens, drawn, toks, os⟩ (upd H2 hp2.objs.size (.lst [])) (hp2.push { cls := .type "list", data := .seq #[] }).objs.size (cellsFrom ((hp2.push { cls := .type "list", data := .seq #[] }).objs.size + 1) scope.names (cloFrom X.env.cells scope.names [])) fp
  generalize hY : blkP X p ⟨hp2.push { cls := .type "list", data := .seq #[] }, gens, drawn, toks, os⟩ (upd H2 hp2.objs.size (.lst [])) scope (compEnvC scope (cellsFrom ((hp2.push { cls := .type "list", data := .seq #[] }).objs.size + 1) scope.names (cloFrom X.env.cells scope.names [])) (hp2.push { cls := .type "list", data := .seq #[] }).objs.size X.env) fp = Y at pg pt pe
  have I4' : Inv Y [] (wipe σ (own.map (·.2))) (upd H2 hp2.objs.size (.lst [])) ⟨pushCells ((hp2.push { cls := .type "list", data := .seq #[] }).push { cls := .type "dict", data := .dict #[] }) scope.names, gens, drawn, toks, os⟩ := by rw [← hY]; exact I4'
  have hotY : L2H.HotC Y := by rw [← hY]; exact ⟨p, hp.hot, List.mem_singleton.mpr rfl⟩
  have stat : ∀ {σ' : List (Option V)} {H' : Hp} {s' : Shared}, Inv Y [] σ' H' s' → (∀ b ∈ fp, H' b = none) → ∀ b ∈ fp, FpOk Y [] H' b := fun I' hn b hb => by
    rw [← hY] at I' ⊢
    refine ⟨hn b hb, (I'.ok.exf b hb).1, I'.ok.exfs b hb, .inl hb, fun x c e => (I'.ok.exf b hb).2 x c e, fun q hq => ?_⟩
    have hq : q ∈ [p] ++ [] := hq
    rw [List.append_nil, List.mem_singleton] at hq
    subst hq
    exact (f2 b hb).2.2.2.2.2 q (List.mem_append_left _ hp.mem)
  have hA : Y.A = X.A := by rw [← hY]
  have hprog : Y.prog = X.prog := by rw [← hY]
  have hw : Y.w = X.w := by rw [← hY]
  have hKY : Y.K = X.K := by rw [← hY]
  have hpn : Y.pn = [p] := by rw [← hY]
  have hxe : Y.xe = fun _ _ => False := by rw [← hY]
  have henv : Y.env = compEnvC scope (cellsFrom ((hp2.push { cls := .type "list", data := .seq #[] }).objs.size + 1) scope.names (cloFrom X.env.cells scope.names [])) (hp2.push { cls := .type "list", data := .seq #[] }).objs.size X.env := by rw [← hY]
  have loop : ∀ R : Result → Shared → Prop, (∀ s6 H5, Inv Y [] (wipe σ (own.map (·.2))) H5 s6 → Q (.ref hp2.objs.size) H5 → R (.ok .next) s6) → codeAny (model X.prog X.w) X.A (.compLoop (.ListComp elt [⟨tg, iter, ifs, 0⟩] scope pos) 0 (.ref it) (.ref hp2.objs.size) Y.env) R ⟨pushCells ((hp2.push { cls := .type "list", data := .seq #[] }).push { cls := .type "dict", data := .dict #[] }) scope.names, gens, drawn, toks, os⟩ := by
    intro R hR
    rw [← hprog, ← hw, ← hA]
    refine compLoop_any (fun n s' => ∃ i H', Inv Y [] (wipe σ (own.map (·.2))) H' s' ∧ tn i s'.heap ∧ (∀ b ∈ fp, H' b = none) ∧ W i n H') ?_ m0 ⟨0, _, I4', st4, nfp, w0⟩
    intro n s5 ⟨i, H5, I5, st5, n5, w5⟩
    rcases turn i n H5 w5 with ⟨stop, qq⟩ | ⟨go, Nx, hNx, step⟩
    · have td := T.done Y hprog hw hKY hotY i [] s5 _ H5 (fun _ _ => False) I5 (stat I5 n5) st5 stop
      rw [← hprog, ← hw] at td
      exact thnF td fun r s6 ⟨hr, I6⟩ => by subst hr; exact hR s6 H5 I6 qq
    · have ti := T.item Y hprog hw hKY hotY i [] s5 _ H5 (fun _ _ => False) I5 (stat I5 n5) st5 go
      rw [← hprog, ← hw] at ti
      refine thnF ti fun r s6 ⟨u, hr, h6⟩ => ?_
      subst hr
      refine thnF h6 fun _ s7 ⟨x, H7, I7, r7, y7, st7, n7⟩ => ?_
      have I7' := I7.pinned (stat I7 n7) (T.obj (i + 1) s7.heap st7)
      have g1 := pg.run ([] ++ pinsAt fp s7.heap) s7 _ H7 x u _ I7' r7 (step x H7 y7)
      rw [hxe] at g1
      refine thnF g1 fun _ s8 ⟨σ8, H8, I8, hw8, q8⟩ => ?_
      have t1 := pt.run ([] ++ pinsAt fp s7.heap) s8 σ8 H8 _ I8 q8
      rw [hxe] at t1
      refine thnF t1 fun b s9 ⟨H9, I9, q9⟩ => ?_
      have fin : ∀ {s' : Shared} {H' : Hp}, Inv Y ([] ++ pinsAt fp s7.heap) σ8 H' s' → Nx H' → ∃ m', m' < n ∧ ∃ i H', Inv Y [] (wipe σ (own.map (·.2))) H' s' ∧ tn i s'.heap ∧ (∀ b ∈ fp, H' b = none) ∧ W i m' H' := fun {s' H'} I' nx => by
        obtain ⟨m', hm, w'⟩ := hNx H' nx
        have pin' : ∀ b ∈ fp, ∀ o, s7.heap.get? b = some o → s'.heap.get? b = some o ∧ H' b = none := fun b hb o e =>
          let z := I'.pin (b, o) (List.mem_append_right _ (List.mem_append_right _ (mem_pinsAt hb e)))
          ⟨z.1, z.2.1⟩
        have hl : (wipe σ (own.map (·.2))).length = σ8.length := by rw [← hw8, wipe_length]
        refine ⟨m', hm, i + 1, H', I'.unpinned.weak hl (fun j v e => (wipe_some (by rw [hw8]; exact e)).1), T.keep (i + 1) _ _ st7 fun b hb o e => (pin' b hb o e).1, fun b hb => ?_, w'⟩
        obtain ⟨o, e, _⟩ := T.obj (i + 1) _ st7 b hb
        exact (pin' b hb o e).2
      cases b with
      | false =>
        rw [if_neg Bool.false_ne_true] at q9 ⊢
        exact fin I9 q9
      | true =>
        rw [if_pos rfl] at q9 ⊢
        have e1 := pe.run ([] ++ pinsAt fp s7.heap) s9 σ8 H9 _ I9 q9
        rw [hxe] at e1
        exact thnF e1 fun y s10 ⟨yv, H10, I10, ry, acc, hD, hl, nx⟩ => app_ok I10 hD hl ry fun s' I' => fin I' nx
  have fin : ∀ s6 H5, Inv Y [] (wipe σ (own.map (·.2))) H5 s6 → Q (.ref hp2.objs.size) H5 → compPost (model X.prog X.w) X.A X.xe none (EP X pins σ Q) (.ref hp2.objs.size) (hp2.push { cls := .type "list", data := .seq #[] }).objs.size (.ok .next) s6 := fun s6 H5 I6 qq => by
    rw [← hY] at I6
    have I7 : Inv X pins σ H5 s6 := I3.call' I6.os I6.base I6.hok I6.bare fun b hb => ⟨(f3 b hb).1.2.2.2.1, (f3 b hb).1.2.1, (f3 b hb).1.2.2.2.2.1, (f3 b hb).1.2.2.2.2.2⟩
    have nC : H5 (hp2.push { cls := .type "list", data := .seq #[] }).objs.size = none := I6.free
    obtain ⟨m, hn, _⟩ := I6.loc
    have f := I3.fpOk (H' := H5) (Nat.le_refl _) nC
    exact ⟨m, hn, fun h'' sb => ⟨.ref hp2.objs.size, H5, I7.turned (fun b o hb e => (sb.2 b hb).trans e) f.1 f.2.1 f.2.2.2.1 f.2.2.2.2.1 f.2.2.2.2.2, rfl, qq⟩⟩
  rw [henv] at loop
  exact codeAny_compStart_list (loop _ fin) (T.self _ 0 _ _ _ st4 (loop _ fin))
end
end DL
set_option Elab.async false
set_option linter.all false
set_option maxRecDepth 100000
set_option maxHeartbeats 4000000
/-! the same of data: a comprehension over a range where an exception is handled; repr and == of what stands at an address, or of a dict -/
namespace DL
open PySem PySem.Spec PyProof.Rows L2
structure QIH (T : Tb) (X : Cx) (W : WX) (tg iter : Expr) (t : TId) : Prop where
  pi : L2H.PIH X tg iter (liftI T W t)
section
variable {T : Tb} {X : Cx} {W : WX} {tg iter elt e a b : Expr} {ifs : List Expr} {es : List Expr} {te ta tb : TEd} {pos p : Pos} {scope : Scope} {own : List (Str × Nat)} {wi : TId} {g : TG} {gd : TGd} {tt : TTd} {po : Addr × Obj} {u : TAd}
theorem PIH.imp {t0 t1 : TI} (h : L2H.PIH X tg iter t0) (hi : ∀ σ H R, t1 σ H R → t0 σ H R) : L2H.PIH X tg iter t1 := ⟨fun pins s σ H R I q => h.run pins s σ H R I (hi σ H R q)⟩
theorem qih_range (hg : Gl X "range") (hm : X.mg "range" = none) (ha : QA T X W [a] u) (hs : starEach [a] X.env = [(false, eval a X.env)] := by rfl) : QIH T X W tg (.Call (.Name "range" p) [a] [] pos) (wiRange u) :=
  ⟨PIH.imp (L2H.pi_range1H hg hm ha.pa hs) fun σ H R ⟨env, G, Q, Ex, rs, rh, ex, q, k⟩ => intoA rs rh ex q fun ds vs G1 H1 rd rh1 k1 ⟨j, e, hj0, hj, q1⟩ => by
    subst e
    cases rd with
    | cons r1 r2 =>
      cases r2
      cases r1
      · refine ⟨j, rfl, by omega, by omega, k _ _ always _ _ rh1 k1 ⟨?_, fun G H _ _ _ i hi => ?_, fun G H _ rh' _ i d x H' hd hy => ?_, fun G H _ _ _ i hi => ?_⟩ q1⟩
        · rw [rangeD_len, sizeLine_eq]; omega
        · show i < j.toNat
          rw [rangeD_len] at hi; exact hi
        · obtain ⟨e, hx⟩ := hy
          subst e hx
          obtain ⟨_, e⟩ := rangeD_get hd
          subst e
          rw [Int.zero_add]
          exact ⟨.int _, rh', Keep.refl _ _⟩
        · show j.toNat ≤ i
          rw [rangeD_len] at hi; exact hi
      ⟩
theorem q_lcP (hp : HotP X po) (hN : X.N.Nodup) (hi : QIH T X W tg iter wi) (ok : BlkOk X.N X.env.scope scope own) (go : GOk T (own.map (·.2)) g gd)
    (hg : ∀ (s : Shared) (H : Hp) (C : Addr) (cl : List (Str × Addr)) (fp : List Addr), PG (blkP X po s H scope (compEnvC scope cl C X.env) fp) tg g) (ht : ∀ (s : Shared) (H : Hp) (C : Addr) (cl : List (Str × Addr)) (fp : List Addr), QTs T (blkP X po s H scope (compEnvC scope cl C X.env) fp) W0 ifs tt)
    (he : ∀ (s : Shared) (H : Hp) (C : Addr) (cl : List (Str × Addr)) (fp : List Addr), QE T (blkP X po s H scope (compEnvC scope cl C X.env) fp) W0 elt te) (hs : ∀ x, foldedSetIterable iter X.env x = pure x := by intro _; rfl) :
    QE T X W (.ListComp elt [⟨tg, iter, ifs, 0⟩] scope pos) (wLc wi gd tt te (own.map (·.2))) :=
  QE.of (pe_lcP hp hN hi.pi ok hg (fun s H C cl fp => (ht s H C cl fp).pts) (fun s H C cl fp => (he s H C cl fp).pe) hs) fun env G σ H Q Ex Qv rs rh ex q k =>
    lc_in (fin := fun p acc => .lst acc) (gfin := fun p G => gdel G p) go fin_frz rs rh ex q k
/-- repr, also of a list that may change -/
def reprTO : OL := fun ds G Q => match ds with
  | [x] => (showD (topD G x) = true ∨ wideD (topD G x) = true) ∧ shownO (topD G x) fun z => Q (.str z) G
  | _ => False
theorem ci_reprT : CallI T (rReprW T) reprTO := by
  intro G H ds vs Q Qv rh r q k
  rcases r with _ | ⟨rx, _ | ⟨_, _⟩⟩
  · exact False.elim q
  · obtain ⟨hw, h2, h3, h4, q⟩ := q
    rename_i d v
    have key : topD G d = d → rReprW T [v] H Qv := fun e => by
      rw [e] at hw h2 h3 h4 q
      exact ⟨_, _, G, rfl, rx, rh, hw, h2, h3, h4, k _ _ G H (.str _) rh (Keep.refl _ _) q⟩
    cases rx with
    | ref a =>
      rcases topD_cases G a with e | ⟨ds, g, e⟩
      · exact key e
      · rw [e] at hw h2 h3 h4 q
        obtain ⟨xs, hx, hl, rr⟩ := rh a _ g
        exact ⟨_, _, gdel G a, rfl, .lst gdel_same hx hl (rr.keep Keep.freeze), rh.freeze a, hw, h2, h3, h4, k _ _ G H (.str _) rh (Keep.refl _ _) q⟩
    | _ => exact key rfl
  · exact False.elim q
theorem q_reprT (hK : X.K = T.K) (hgd : X.A.guards = some []) (hu : X.A.units + 64 < cLine) (hS : sysB T.K = true) (hm : X.mg "repr" = none) (ha : QA T X W (e :: es) u) (hg : Gl X "repr" := by rfl) (he : starEach (e :: es) X.env = (false, eval e X.env) :: starEach es X.env := by rfl) (hpl : (backTo pos (starEach es X.env)).any (·.1) = false := by rfl) :
    QE T X W (.Call (.Name "repr" p) (e :: es) [] pos) (wCall reprTO u) := q_callB (call_reprW hK hS hgd hu) ci_reprT hg hm rfl ha (by decide) (by decide) he hpl
/-- ==, also of a dict of integers with itself -/
def intD : D → Bool
  | .int _ => true
  | _ => false
def eqXO : O2 := fun x y G Q => match x with
  | .dic ks ds => y = .dic ks ds ∧ ks.Nodup ∧ ds.all intD = true ∧ Q (.bl true) G
  | x => eqO x y G Q
abbrev rDic : R2 := fun x y H Q => ∃ a b kvs, x = .ref a ∧ y = .ref b ∧ H a = some (.dK kvs) ∧ H b = some (.dK kvs) ∧ (kvs.map (·.1)).Nodup ∧ (∀ p ∈ kvs, flatB p.2 = true) ∧ Q (.bl true) H
theorem ints_v {G : GH} {H : Hp} : ∀ {ds : List D} {xs ys : List V}, RVs T G H ds xs → RVs T G H ds ys → ds.all intD = true → xs = ys ∧ ∀ x ∈ xs, flatB x = true
  | _, _, _, .nil, .nil, _ => ⟨rfl, fun _ h => nomatch h⟩
  | _, _, _, .cons (d := d) r1 t1, .cons r2 t2, h => by
    rw [List.all_cons] at h
    obtain ⟨h1, h2⟩ := Bool.and_eq_true_iff.mp h
    obtain ⟨e, f⟩ := ints_v t1 t2 h2
    cases r1 with
    | int i => cases r2; exact ⟨by rw [e], fun x hx => by rcases List.mem_cons.mp hx with e | hx; · rw [e]; rfl
                                                          · exact f x hx⟩
    | _ => cases h1
theorem oi_eqX {K : PySem.W.Frag} (hK : K = T.K) : OpI T (rOr2 (rOr2 (rEqD K) rEq) rDic) eqXO := by
  intro G H x y v w Q Qv rh rx ry q k
  cases rx with
  | @dic a kvs ks xs ds g hx e l rr =>
    obtain ⟨ey, hn, hi, q⟩ := q
    subst ey
    cases ry with
    | @dic a2 kvs2 _ xs2 _ g2 hx2 e2 l2 rr2 =>
      subst e e2
      obtain ⟨ee, hf⟩ := ints_v rr rr2 hi
      subst ee
      refine .inr ⟨a, a2, _, rfl, rfl, hx, hx2, ?_, fun p hp => hf _ (List.of_mem_zip hp).2, k _ _ G H (.bl _) rh (Keep.refl _ _) q⟩
      rw [List.map_fst_zip (by omega)]
      exact hn
  | non => exact .inl (oi_eq hK G H _ y _ w Q Qv rh .non ry q k)
  | bl b => exact .inl (oi_eq hK G H _ y _ w Q Qv rh (.bl b) ry q k)
  | int i => exact .inl (oi_eq hK G H _ y _ w Q Qv rh (.int i) ry q k)
  | str x => exact .inl (oi_eq hK G H _ y _ w Q Qv rh (.str x) ry q k)
  | ty n => exact .inl (oi_eq hK G H _ y _ w Q Qv rh (.ty n) ry q k)
  | ref a => exact .inl (oi_eq hK G H _ y _ w Q Qv rh (.ref a) ry q k)
  | tup a l b => exact .inl (oi_eq hK G H _ y _ w Q Qv rh (.tup a l b) ry q k)
  | tupp a b c d e f => exact .inl (oi_eq hK G H _ y _ w Q Qv rh (.tupp a b c d e f) ry q k)
  | lst a b l c => exact .inl (oi_eq hK G H _ y _ w Q Qv rh (.lst a b l c) ry q k)
  | frl a l b => exact .inl (oi_eq hK G H _ y _ w Q Qv rh (.frl a l b) ry q k)
  | obj a b c d => exact .inl (oi_eq hK G H _ y _ w Q Qv rh (.obj a b c d) ry q k)
  | exc a b c d => exact .inl (oi_eq hK G H _ y _ w Q Qv rh (.exc a b c d) ry q k)
theorem q_eqX (hK : X.K = T.K) (hu : X.A.units + 64 < cLine) (ha : QE T X W a ta) (hb : QE T X W b tb) (hm : behindInMarks .Eq b = false := by first | exact nomark _ | rfl) : QE T X W (.Compare a [.Eq] [b] pos) (wOp eqXO ta tb) :=
  q_cmp ((op_eqO hu).or (op_eq_dict (by omega))) (by rw [hK]; exact oi_eqX rfl) ha hb hm
end
end DL
set_option Elab.async false
set_option linter.all false
set_option maxRecDepth 100000
set_option maxHeartbeats 4000000
/-! a def that never raises, whose exceptions would have no context -/
namespace DL
open PySem PySem.Spec PyProof.Rows L2
theorem RoomHG.mono {j k : Nat} {A : Around} (r : RoomHG k A) (h : j ≤ k) : RoomHG j A := ⟨⟨by have := r.r.dp; omega, by have := r.r.un; omega⟩, r.g⟩
theorem RoomHG.hu2 {k : Nat} {A : Around} (r : RoomHG k A) : A.units + 80 < cLine := by
  have := r.r.un
  omega
theorem hotP_suite {X : Cx} {a : Addr} {oe : Obj} {cl : Value} {d : Option Addr} {pn : List (Addr × Obj)} (hz : L2N.Zn cl d oe) (hf : ∃ vs, oe.data = .fields vs) : HotP (X.suite a ((a, oe) :: pn)) (a, oe) := by
  obtain ⟨vs, hv⟩ := hf
  exact ⟨⟨rfl, vs, hv, hz.2.2 vs hv⟩, List.mem_cons_self⟩
theorem Zn_c {cl : Value} {d : Option Addr} {oe : Obj} (hz : L2N.Zn cl d oe) : Zc cl d oe := ⟨hz.1, hz.2.1⟩
def wFnF (sp : DSp) (t : TAd) : TEd := fun env G Q Ex => t env G (fun ds G1 => sp ds G1 Q (fun _ _ _ => False)) Ex
section
variable {T : Tb} {X : Cx} {W : WX} {k n : Nat} {sp : DSp} {x : Str} {p pos : Pos} {e : Expr} {es : List Expr} {u : TAd} {f : Addr} {fd : FuncData} {ps : List Str}
theorem run_GF {pins : List (Addr × Obj)} {σ : List (Option V)} {H : Hp} {s : Shared} {Q : VK} {us : List Value} {vs : List V} {sp : Sp} (F : FnG X.prog X.w X.K X.mg X.base (L2N.CX X.prog X.w) k f fd ps sp) (hr : RoomG k X.A) (hb : Binds X.K fd ps [])
    (I : Inv X pins σ H s) (r : Vals vs us) (h : sp vs H Q (fun _ _ _ => False)) : wpAny (model X.prog X.w) X.A (call (.ref f) us) (EP X pins σ Q) X.xe s := by
  have r2 := r.append (.nil : Vals [] [])
  rw [List.append_nil, List.append_nil] at r2
  have hl : us.length = ps.length := r2.length.symm.trans (F.len _ _ _ _ h)
  have hb' := hb s us I.kIn (by rw [List.append_nil]; exact hl)
  rw [List.append_nil] at hb'
  refine wpAny_call (codeAny_mono (F.run X.A X.stack s H ⟨us, []⟩ us vs Q (fun _ _ _ => False) hr I.env0 hb' r2 h) fun res s' hq => ?_)
  rcases res with er | (fl | fl | fl | fl)
  · obtain ⟨_, _, _, _, _, _, _, _, _, _, _, _, z⟩ := hq
    exact z.elim
  all_goals first | exact I.after hq | exact False.elim hq
theorem qclF (hK : X.K = T.K) (C : CalN T X.prog X.w X.mg X.base x k n sp) (hr : RoomG k X.A) (hg : Gl X x)
    (ha : QA T X W (e :: es) u) (hdb : (x == ("__debug__" : Str)) = false := by decide) (he : starEach (e :: es) X.env = (false, eval e X.env) :: starEach es X.env := by rfl) (hpl : (backTo pos (starEach es X.env)).any (·.1) = false := by rfl) :
    QE T X W (.Call (.Name x p) (e :: es) [] pos) (wFnF sp u) := by
  obtain ⟨f, fd, ps, _, F, hm, hk, hb⟩ := C.ex
  rw [← hK] at F hk hb
  exact ⟨⟨fun pins s σ H Qv I ⟨env, G, Q, Ex, rs, rh, ex, q, kq⟩ => by
    refine wpAny_Call_Name_kw (ld_glob I hg hm ?_ hdb)
    have q' : liftA T W u σ H (fun vs H1 => liftSp T sp vs H1 Qv (fun _ _ _ => False)) := intoA rs rh ex q fun ds vs G1 H1 rds rh1 k1 q1 =>
      ⟨ds, G1, _, _, rds, rh1, q1, fun v H' ⟨d, G', a, b, c, d'⟩ => kq v H' ⟨d, G', a, b, k1.trans c, d'⟩, fun _ _ _ _ _ _ z => z.elim⟩
    refine PySem.W.callWith_K (h₀ := X.base) I.ok.mod.kin hk (thn (ha.pa.run pos pins s σ H _ I q') fun us s1 ⟨vs, H1, I1, r, q2⟩ => ⟨I1.kIn, ?_⟩) he hpl
    exact run_GF F hr hb I1 r q2⟩⟩
end
end DL
set_option Elab.async false
set_option linter.all false
set_option maxRecDepth 100000
set_option maxHeartbeats 4000000
/-! a list comprehension with two loops -/
namespace DL
open PySem PySem.Spec PyProof.Rows L2
/-- the inner loop -/
def wC2i (p : Addr) (stay : GH → Prop) (gd : TGd) (te : TEd) (env0 : Ev) (K : List D → GH → Prop) : List D → List D → GH → Prop
  | [], acc, G => stay G ∧ K acc G
  | d :: ds, acc, G => stay G ∧ gd d env0 G (fun env1 G1 => te env1 G1 (fun y G3 => G3 p = some (.lst acc) ∧ acc.length < sizeLine ∧ wC2i p stay gd te env0 K ds (acc ++ [y]) (gset G3 p (.lst (acc ++ [y])))) (fun _ _ _ => False)) (fun _ _ _ => False)
/-- the outer loop -/
def wC2 (p : Addr) (stay : GH → Prop) (gd : TGd) (wi1 : TId) (gd1 : TGd) (te : TEd) (vs1 : List Nat) (env0 : Ev) (Q : List D → GH → Prop) : List D → List D → GH → Prop
  | [], acc, G => stay G ∧ G p = some (.lst acc) ∧ Q acc G
  | d :: ds, acc, G => stay G ∧ gd d env0 G (fun env1 G1 => wi1 env1 G1 (fun ds1 stay1 G2 => wC2i p stay1 gd1 te (wipeE env1 vs1) (fun acc' G3 => wC2 p stay gd wi1 gd1 te vs1 env0 Q ds acc' G3) ds1 acc G2) (fun _ _ _ => False)) (fun _ _ _ => False)
def wLc2 (wi : TId) (gd : TGd) (wi1 : TId) (gd1 : TGd) (te : TEd) (vs vs1 : List Nat) : TEd := fun env G Q Ex => wi env G (fun ds stay G1 => ∀ p, G1 p = none → wC2 p stay gd wi1 gd1 te vs1 (wipeE env vs) (fun acc G2 => Q (.lst acc) (gdel G2 p)) ds [] (gset G1 p (.lst []))) Ex
section
variable {T : Tb} {X : Cx} {W : WX} {tg iter tg1 iter1 elt : Expr} {te : TEd} {pos : Pos} {scope : Scope} {own : List (Str × Nat)} {wi wi1 : TId} {g g1 : TG} {gd gd1 : TGd} {vs vs1 : List Nat}
theorem lc2_in (hg : GOk T vs g gd) (hg1 : GOk T vs1 g1 gd1) {env0 : Ev} {G0 : GH} {H0 : Hp} {σ0 : List (Option V)} {Ex : DX} {Qd : D → GH → Prop} {Qv : VK} {fin : Addr → List D → D} {gfin : Addr → GH → GH}
    (hfin : ∀ (p : Addr) (acc : List D) (G : GH) (H : Hp), RH T G H → G p = some (.lst acc) → RV T (gfin p G) H (fin p acc) (.ref p) ∧ RH T (gfin p G) H ∧ ∀ G1 H1, Keep G1 H1 G H → Keep G1 H1 (gfin p G) H)
    (rs0 : RS T G0 H0 env0 σ0) (rh0 : RH T G0 H0) (ex : ExOk T W G0 H0 σ0 Ex)
    (q : wi env0 G0 (fun ds stay G1 => ∀ p, G1 p = none → wC2 p stay gd wi1 gd1 te vs1 (wipeE env0 vs) (fun acc G2 => Qd (fin p acc) (gfin p G2)) ds [] (gset G1 p (.lst []))) Ex)
    (kf : ∀ d v G' H', RV T G' H' d v → RH T G' H' → Keep G0 H0 G' H' → Qd d G' → Qv v H') : tLc2 (liftI T W wi) g tYes (liftI T W0 wi1) g1 tYes (liftE T W0 te) vs vs1 σ0 H0 Qv := by
  refine ⟨env0, G0, _, Ex, rs0, rh0, ex, q, fun J ds stay G1 H1 rh1 k1 src q1 p np => ?_⟩
  have q1 := q1 p (rh1.fresh np)
  have kn : Keep G1 H1 (gset G1 p (.lst [])) (upd H1 p (.lst [])) := Keep.newG np
  have rhn : RH T (gset G1 p (.lst [])) (upd H1 p (.lst [])) := rh1.newG (d := .lst []) np ⟨[], upd_same, Nat.zero_le _, .nil⟩
  refine ⟨fun i m H => ∃ G acc, RH T G H ∧ Keep G1 H1 G H ∧ m = ds.length - i ∧ i ≤ ds.length ∧ wC2 p stay gd wi1 gd1 te vs1 (wipeE env0 vs) (fun acc G2 => Qd (fin p acc) (gfin p G2)) (ds.drop i) acc G,
    ⟨ds.length, _, [], rhn, kn, by simp, Nat.zero_le _, by simpa using q1⟩, ?_⟩
  rintro i m H ⟨G, acc, rh, k, rfl, hi, q⟩
  have rsE : RS T G H (wipeE env0 vs) (wipe σ0 vs) := ((rs0.keep k1).keep k).wipe vs
  by_cases hlt : i < ds.length
  · rw [drop_cons hlt] at q
    obtain ⟨st, q⟩ := q
    refine .inr ⟨src.go G H k rh st i hlt, fun H' => ∃ G acc, RH T G H' ∧ Keep G1 H1 G H' ∧ wC2 p stay gd wi1 gd1 te vs1 (wipeE env0 vs) (fun acc G2 => Qd (fin p acc) (gfin p G2)) (ds.drop (i + 1)) acc G,
      fun H' ⟨G', acc', a, b, d⟩ => ⟨ds.length - (i + 1), by omega, G', acc', a, b, rfl, by omega, d⟩, fun x H' hy => ?_⟩
    obtain ⟨rx, rh', k'⟩ := src.yld G H k rh st i ds[i] x H' (List.getElem?_eq_getElem hlt) hy
    refine hg _ _ _ _ _ _ _ _ _ rx (rsE.keep k') q fun env1 σ1 rs1 hw q1 => ⟨by rw [hw]; exact wipe_wipe σ0 vs, ?_⟩
    unfold tYes
    dsimp only
    rw [if_pos rfl]
    refine ⟨env1, G, _, _, rs1, rh', fun _ _ _ _ _ _ z => z.elim, q1, fun J1 ds1 stay1 G2 H2 rh2 k2 src1 q2 => ?_⟩
    refine ⟨fun j k H => ∃ G3 acc3, RH T G3 H ∧ Keep G2 H2 G3 H ∧ k = ds1.length - j ∧ j ≤ ds1.length ∧ wC2i p stay1 gd1 te (wipeE env1 vs1) (fun acc' G3 => wC2 p stay gd wi1 gd1 te vs1 (wipeE env0 vs) (fun acc G2 => Qd (fin p acc) (gfin p G2)) (ds.drop (i + 1)) acc' G3) (ds1.drop j) acc3 G3,
      ⟨ds1.length, G2, acc, rh2, Keep.refl _ _, by simp, Nat.zero_le _, by simpa using q2⟩, ?_⟩
    rintro j kk H3 ⟨G3, acc3, rh3, k3, rfl, hj, q3⟩
    have rsI : RS T G3 H3 (wipeE env1 vs1) (wipe σ1 vs1) := ((rs1.keep k2).keep k3).wipe vs1
    by_cases hjt : j < ds1.length
    · rw [drop_cons hjt] at q3
      obtain ⟨st1, q3⟩ := q3
      refine .inr ⟨src1.go G3 H3 k3 rh3 st1 j hjt, fun H' => ∃ G3 acc3, RH T G3 H' ∧ Keep G2 H2 G3 H' ∧ wC2i p stay1 gd1 te (wipeE env1 vs1) (fun acc' G3 => wC2 p stay gd wi1 gd1 te vs1 (wipeE env0 vs) (fun acc G2 => Qd (fin p acc) (gfin p G2)) (ds.drop (i + 1)) acc' G3) (ds1.drop (j + 1)) acc3 G3,
        fun H' ⟨G', acc', a, b, d⟩ => ⟨ds1.length - (j + 1), by omega, G', acc', a, b, rfl, by omega, d⟩, fun y H4 hy4 => ?_⟩
      obtain ⟨ry, rh4, k4⟩ := src1.yld G3 H3 k3 rh3 st1 j ds1[j] y H4 (List.getElem?_eq_getElem hjt) hy4
      refine hg1 _ _ _ _ _ _ _ _ _ ry (rsI.keep k4) q3 fun env2 σ2 rs2 hw2 q4 => ⟨by rw [hw2]; exact wipe_wipe σ1 vs1, ?_⟩
      dsimp only
      rw [if_pos rfl]
      refine intoE rs2 rh4 (fun _ _ _ _ _ _ z => z.elim) q4 fun z v G5 H5 rz rh5 k5 ⟨g5, hl, q5⟩ => ?_
      obtain ⟨us, hu, lu, ru⟩ := rh5 p _ g5
      refine ⟨us, hu, by rw [← ru.length]; exact hl, gset G5 p (.lst (acc3 ++ [z])), acc3 ++ [z], ?_, ?_, q5⟩
      · exact rh5.put (d := .lst (acc3 ++ [z])) g5 ⟨us ++ [v], upd_same, by rw [List.length_append, List.length_singleton]; omega, (ru.append (.cons rz .nil)).keep (Keep.put g5)⟩
      · exact ((k3.trans k4).trans k5).trans (Keep.put g5)
    · have e : j = ds1.length := by omega
      subst e
      rw [List.drop_length] at q3
      obtain ⟨st1, q3⟩ := q3
      exact .inl ⟨src1.stop G3 H3 k3 rh3 st1 _ (Nat.le_refl _), G3, acc3, rh3, ((k.trans k').trans k2).trans k3, q3⟩
  · have e : i = ds.length := by omega
    subst e
    rw [List.drop_length] at q
    obtain ⟨st, gp, q⟩ := q
    obtain ⟨a, b, c⟩ := hfin p acc G H rh gp
    exact .inl ⟨src.stop G H k rh st _ (Nat.le_refl _), kf _ _ _ _ a b (c _ _ (k1.trans k)) q⟩
theorem q_lc2 (hc : X.calm = true) (hN : X.N.Nodup) (hi : QI T X W tg iter wi) (ok : BlkOk X.N X.env.scope scope own) (hv : ∀ i ∈ vs1, i ∈ own.map (·.2)) (go : GOk T (own.map (·.2)) g gd) (go1 : GOk T vs1 g1 gd1)
    (hg : ∀ (s : Shared) (H : Hp) (C : Addr) (cl : List (Str × Addr)) (fp : List Addr), PG (X.blk s H scope (compEnvC scope cl C X.env) fp) tg g)
    (hi1 : ∀ (s : Shared) (H : Hp) (C : Addr) (cl : List (Str × Addr)) (fp : List Addr), QI T (X.blk s H scope (compEnvC scope cl C X.env) fp) W0 tg1 iter1 wi1)
    (hg1 : ∀ (s : Shared) (H : Hp) (C : Addr) (cl : List (Str × Addr)) (fp : List Addr), PG (X.blk s H scope (compEnvC scope cl C X.env) fp) tg1 g1)
    (he : ∀ (s : Shared) (H : Hp) (C : Addr) (cl : List (Str × Addr)) (fp : List Addr), QE T (X.blk s H scope (compEnvC scope cl C X.env) fp) W0 elt te) (hs : ∀ x, foldedSetIterable iter X.env x = pure x := by intro _; rfl) (hs1 : ∀ (env : Env) x, foldedSetIterable iter1 env x = pure x := by intro _ _; rfl) :
    QE T X W (.ListComp elt [⟨tg, iter, [], 0⟩, ⟨tg1, iter1, [], 0⟩] scope pos) (wLc2 wi gd wi1 gd1 te (own.map (·.2)) vs1) :=
  QE.of (pe_lc2 hc hN hi.pi ok hv hg (fun s H C cl fp => pts_nil) (fun s H C cl fp => (hi1 s H C cl fp).pi) hg1 (fun s H C cl fp => pts_nil) (fun s H C cl fp => (he s H C cl fp).pe) hs hs1) fun env G σ H Q Ex Qv rs rh ex q k =>
    lc2_in (fin := fun p acc => .lst acc) (gfin := fun p G => gdel G p) go go1 fin_frz rs rh ex q k
theorem q_setLc2 {i : Nat} {y : Str} {py spos : Pos} (hc : X.calm = true) (hN : X.N.Nodup) (hy : X.N[i]? = some y) (hyl : X.env.scope.names.lookup y = some .local)
    (hsw : swapsWith (.ListComp elt [⟨tg, iter, [], 0⟩, ⟨tg1, iter1, [], 0⟩] scope pos) (some (.Name y py)) spos.line X.env = pure true) (hi : QI T X W tg iter wi) (ok : BlkOk X.N X.env.scope scope own) (hv : ∀ i ∈ vs1, i ∈ own.map (·.2)) (go : GOk T (own.map (·.2)) g gd) (go1 : GOk T vs1 g1 gd1)
    (hg : ∀ (s : Shared) (H : Hp) (C : Addr) (cl : List (Str × Addr)) (fp : List Addr), PG (X.blk s H scope (compEnvC scope cl C X.env) fp) tg g)
    (hi1 : ∀ (s : Shared) (H : Hp) (C : Addr) (cl : List (Str × Addr)) (fp : List Addr), QI T (X.blk s H scope (compEnvC scope cl C X.env) fp) W0 tg1 iter1 wi1)
    (hg1 : ∀ (s : Shared) (H : Hp) (C : Addr) (cl : List (Str × Addr)) (fp : List Addr), PG (X.blk s H scope (compEnvC scope cl C X.env) fp) tg1 g1)
    (he : ∀ (s : Shared) (H : Hp) (C : Addr) (cl : List (Str × Addr)) (fp : List Addr), QE T (X.blk s H scope (compEnvC scope cl C X.env) fp) W0 elt te) (hs : ∀ x, foldedSetIterable iter X.env x = pure x := by intro _; rfl) (hs1 : ∀ (env : Env) x, foldedSetIterable iter1 env x = pure x := by intro _ _; rfl) :
    QS T X W (.Assign [.Name y py] (.ListComp elt [⟨tg, iter, [], 0⟩, ⟨tg1, iter1, [], 0⟩] scope pos) spos) (wSet i (wLc2 wi gd wi1 gd1 te (own.map (·.2)) vs1)) :=
  QS.of (ps_setLc2 hc hN hy hyl hsw hi.pi ok hv hg (fun s H C cl fp => pts_nil) (fun s H C cl fp => (hi1 s H C cl fp).pi) hg1 (fun s H C cl fp => pts_nil) (fun s H C cl fp => (he s H C cl fp).pe) hs hs1) fun env G De Dv σ H rs rh ex en q =>
    lc2_in (fin := fun p acc => .lst acc) (gfin := fun p G => gdel G p) (Qd := fun d G1 => De.nx (env.set i (some d)) G1) go go1 fin_frz rs rh (ex.at rs) q fun d v G' H' rd rh' k' q' => en.nx _ _ _ _ ((rs.keep k').set i rd) rh' k' q'
end
end DL
set_option Elab.async false
set_option linter.all false
set_option maxRecDepth 100000
set_option maxHeartbeats 4000000
namespace DL
open PySem PySem.Spec PyProof.Rows L2
theorem extend_it {prog : Program} {w : World} {A : Around} {s : Shared} {R : Result → Shared → Prop} {I : Addr} {fp wr : List Addr} {G : Array GenState → Array GenState → Prop} {n : Nat} {P : Nat → Value → Prop} {St : Nat → Shared → Prop} {T : String}
    (hl : typeLookup (.type T) "__len__" = pure none) (hn0 : typeLookup (.type T) "__length_hint__" = pure none) (h2 : (Value.type T == Value.type "list") = false) (h3 : (Value.type T == Value.type "tuple") = false)
    (W : WalksS prog w A.in1 I fp wr G n P St) (hT : ∀ i s, St i s → s.TypeIs (.ref I) T) (S : Addr) (res : Value) (c₀ : Nat) (hst : St 0 s) (hSf : S ∉ fp) (hI : I ∈ fp) (hS : s.heap.get? S = some { cls := .type "list", data := .seq #[] c₀ })
    (hR : ∀ s' acc' c', Moved (S :: wr) G s s' → s'.heap.get? S = some { cls := .type "list", data := .seq acc' c' } → ItemsOf P acc' n → R (.ok (.ret res)) s') (hn : n ≤ sizeLine) :
    wpAny (model prog w) A.in1 (Builtin.List.listExtendWith (.ref S) (.ref I) res) (fun fin s' => match fin with | .done f => R (.ok f) s' | .again c' => c'.quiet = true ∧ codeAny (model prog w) A c' R s') (fun e s' => R (.error e) s') s := by
  have hSI : S ≠ I := fun e => hSf (e ▸ hI)
  unfold Builtin.List.listExtendWith
  refine wpAny_bind (wpAny_typeOf (hT 0 s hst) ?_)
  rw [if_neg (by rw [h2, h3, Bool.or_false, Bool.or_false]; show ¬ ((S == I) = true); simpa using hSI)]
  refine wpAny_bind (W.self 0 s _ _ hst ?_)
  refine wpAny_bind (wpAny_holding ?_)
  unfold Builtin.List.listLengthHint
  refine wpAny_bind (wpAny_specialOf (hT 0 s hst) hl ?_)
  refine id (wpAny_bind (wpAny_specialOf (hT 0 s hst) hn0 (wpAny_pure ?_)))
  refine id (wpAny_bind (wpAny_rule ?_))
  unfold Builtin.List.listTouch
  have hS₂ := Heap.get?_update_self (Obj.mapSeq fun x => x.push Value.none) hS rfl
  have hS₃ := Heap.get?_update_self (Obj.mapSeq fun x => x.pop) hS₂ rfl
  have oth : ∀ b o, b ≠ S → s.heap.get? b = some o → ((s.heap.update S (Obj.mapSeq fun x => x.push Value.none)).update S (Obj.mapSeq fun x => x.pop)).get? b = some o := fun b o hb e =>
    (Heap.get?_update_other (s.heap.update S (Obj.mapSeq fun x => x.push Value.none)) (Obj.mapSeq fun x => x.pop) (Ne.symm hb)).trans ((Heap.get?_update_other s.heap (Obj.mapSeq fun x => x.push Value.none) (Ne.symm hb)).trans e)
  refine wpAny_bind (wpAny_bind (wpAny_updateSeq hS rfl (wpAny_updateSeq hS₂ rfl ?_ (by simp [sizeLine_eq]) (by simp [sizeLine_eq])) (by simp [sizeLine_eq]) (by simp [sizeLine_eq])))
  exact wpAny_pure ⟨plainId_quiet F.plain_extend_loop _, codeAny_extend_loopS W hn S hSf res n 0 _ _ _ rfl (Nat.zero_le n) (W.frame 0 s _ s.toks hst (Nat.le_refl _) fun b hb o e => oth b o (fun h => hSf (h ▸ hb)) e) hS₃ (ItemsOf.nil P) fun s' acc' c' hm hS' hacc =>
    hR s' acc' c' (Moved.trans W.gtrans (Moved.then_heap (Moved.refl W.grefl) (Nat.le_refl _) fun b o hb e => oth b o (fun h => hb (h ▸ List.mem_cons_self)) e) hm) hS' hacc⟩
theorem list_init_it {prog : Program} {w : World} {A : Around} {s : Shared} {R : Result → Shared → Prop} {I : Addr} {fp wr : List Addr} {G : Array GenState → Array GenState → Prop} {n : Nat} {P : Nat → Value → Prop} {St : Nat → Shared → Prop} {T : String}
    (hl : typeLookup (.type T) "__len__" = pure none) (hn0 : typeLookup (.type T) "__length_hint__" = pure none) (h2 : (Value.type T == Value.type "list") = false) (h3 : (Value.type T == Value.type "tuple") = false)
    (W : WalksS prog w A.in1 I fp wr G n P St) (hT : ∀ i s, St i s → s.TypeIs (.ref I) T) (S : Addr) (hst : St 0 s) (hSf : S ∉ fp) (hI : I ∈ fp) (hS : s.heap.get? S = some { cls := .type "list", data := .seq #[] })
    (hR : ∀ s' acc' c', Moved (S :: wr) G s s' → s'.heap.get? S = some { cls := .type "list", data := .seq acc' c' } → ItemsOf P acc' n → R (.ok (.ret .none)) s') (hn : n ≤ sizeLine) :
    wpAny (model prog w) A.in1 (Builtin.«list.__init__» { pos := [.ref S, .ref I] }) (fun fin s' => match fin with | .done f => R (.ok f) s' | .again c' => c'.quiet = true ∧ codeAny (model prog w) A c' R s') (fun e s' => R (.error e) s') s := by
  have hS₂ := Heap.get?_update_self (Obj.mapSeq fun x => #[]) hS rfl
  have oth : ∀ b o, b ≠ S → s.heap.get? b = some o → (s.heap.update S (Obj.mapSeq fun x => #[])).get? b = some o := fun b o hb e => (Heap.get?_update_other s.heap (Obj.mapSeq fun x => #[]) (Ne.symm hb)).trans e
  refine id (wpAny_bind (id (wpAny_bind (wpAny_seqItems hS rfl (wpAny_pure (id (wpAny_bind (wpAny_updateSeq hS rfl (wpAny_bind (wpAny_letGo ?_)) (by simp [sizeLine_eq]) (by simp [sizeLine_eq])))))))))
  exact extend_it hl hn0 h2 h3 W hT S .none _ (W.frame 0 s _ s.toks hst (Nat.le_refl _) fun b hb o e => oth b o (fun h => hSf (h ▸ hb)) e) hSf hI hS₂ (fun s' acc' c' hm hS' hacc =>
    hR s' acc' c' (Moved.trans W.gtrans (Moved.then_heap (Moved.refl W.grefl) (Nat.le_refl _) fun b o hb e => oth b o (fun h => hb (h ▸ List.mem_cons_self)) e) hm) hS' hacc) hn
/-- list(x), x an iterator of the type T -/
theorem call_list_it {prog : Program} {w : World} {A : Around} {E : Value → Shared → Prop} {s : Shared} {I : Addr} {fp wr : List Addr} {G : Array GenState → Array GenState → Prop} {n : Nat} {P : Nat → Value → Prop} {St : Nat → Shared → Prop} {T : String} {Q : Value → Shared → Prop}
    (hl : typeLookup (.type T) "__len__" = pure none) (hn0 : typeLookup (.type T) "__length_hint__" = pure none) (h2 : (Value.type T == Value.type "list") = false) (h3 : (Value.type T == Value.type "tuple") = false)
    (W : WalksS prog w A.in1.in1 I fp wr G n P St) (hT : ∀ i s, St i s → s.TypeIs (.ref I) T) (hst : St 0 s) (hfp : ∀ b ∈ fp, b < s.heap.objs.size) (hI : I ∈ fp)
    (hQ : ∀ s' acc' c', Moved (s.heap.objs.size :: wr) G { heap := s.heap.push { cls := .type "list", data := .seq #[] }, gens := s.gens, drawn := s.drawn, toks := s.toks, os := s.os } s' → s'.heap.get? s.heap.objs.size = some { cls := .type "list", data := .seq acc' c' } → ItemsOf P acc' n → Q (.ref s.heap.objs.size) s')
    (hn : n ≤ sizeLine) : wpAny (model prog w) A (call (.type "list") [.ref I]) Q E s := by
  have hSf : s.heap.objs.size ∉ fp := fun hm => Nat.lt_irrefl _ (hfp _ hm)
  refine callType_codes (Q₁ := fun v s1 => v = .ref s.heap.objs.size ∧ s1 = { heap := s.heap.push { cls := .type "list", data := .seq #[] }, gens := s.gens, drawn := s.drawn, toks := s.toks, os := s.os }) F.called_list (F.typeCall_list_1 (.ref I)) F.entry_list_init (code_list_new (.ref I) ⟨rfl, rfl⟩) fun obj s₁ h₁ => ?_
  obtain ⟨e1, e2⟩ := h₁
  rw [e1, e2]
  have hS := Heap.get?_push_size s.heap (o := { cls := .type "list", data := .seq #[] }) rfl
  exact ⟨⟨_, hS, rfl⟩, F.args_list_init_2 _ _, list_init_it hl hn0 h2 h3 W hT _ (W.frame 0 s _ s.toks hst (Nat.le_refl _) fun b _ o e => Heap.get?_push_of_some _ e) hSf hI hS (fun s' acc' c' hm hS' hacc => ⟨rfl, hQ s' acc' c' hm hS' hacc⟩) hn⟩
theorem zip_item_held {prog : Program} {w : World} {A : Around} {E : Value → Shared → Prop} {s : Shared} {z TI TO i1 i2 T : Addr} {f1 : Bool} {fp1 fp2 : List Addr} {n1 n2 i : Nat} {P1 P2 : Nat → Value → Prop} {St1 St2 : Nat → Heap → Prop} {Q : Value → Shared → Prop}
    (S : ZipSep2 z TI TO i1 i2 fp1 fp2) (D1 : Draws prog w A i1 fp1 n1 P1 St1) (D2 : Draws prog w A i2 fp2 n2 P2 St2)
    (hz : s.heap.get? z = some { cls := .type "zip", data := .fields #[rawInt T, .bool f1, .bool false, .ref TI, .ref TO] }) (hTI : IsTupOf2 s.heap TI (.ref i1) (.ref i2)) {oT : Obj} (hT : s.heap.get? T = some oT) {a1 a2 : Value} (hTO : IsTupOf2 s.heap TO a1 a2)
    (st1 : St1 i s.heap) (st2 : St2 i s.heap) (h1 : i < n1) (h2 : i < n2)
    (hQ : ∀ (x1 x2 : Value) (R : Addr) (f0 : Value) (f1 : Bool) (h' : Heap) (tk : Nat), P1 i x1 → P2 i x2 → (∃ T : Addr, f0 = rawInt T) → h'.get? z = some { cls := .type "zip", data := .fields #[f0, .bool f1, .bool false, .ref TI, .ref TO] } → (∃ a1 a2, IsTupOf2 h' TO a1 a2) → St1 (i + 1) h' → St2 (i + 1) h' → s.heap.objs.size ≤ R → IsTupOf2 h' R x1 x2 → (∀ c o, c ≠ z → c ≠ TO → c ≠ i1 → c ≠ i2 → s.heap.get? c = some o → h'.get? c = some o) → Q (.ref R) { heap := h', gens := s.gens, drawn := s.drawn, toks := tk, os := s.os }) : wpAny (model prog w) A (Builtin.«zip.__next__» { pos := [.ref z] }) (fun fin s' => ∃ v, fin = Fin.done (Flow.ret v) ∧ Q v s') E s := by
  obtain ⟨hp, g, d, tk0, os⟩ := s
  unfold Builtin.«zip.__next__»
  refine wpAny_bind (show wpAny _ _ (slotArgs _ _ _) _ _ _ from wpAny_pure ?_)
  dsimp only
  refine wpAny_bind (wpAny_field hz rfl rfl ?_)
  refine id (wpAny_bind (wpAny_field hz rfl rfl (wpAny_bind (wpAny_seqItems hTI rfl ?_))))
  dsimp only
  refine id (wpAny_bind ?_)
  unfold Builtin.SmallTypes.ownedTupleIsFree
  refine wpAny_bind (wpAny_field hz rfl rfl ?_)
  dsimp only
  refine id (wpAny_bind (W.kdx_alive (o := oT) (by rw [Int.toNat_natCast]; exact hT) ?_))
  have mark : ∀ (Q' : Bool → Shared → Prop), (∀ h', h'.get? z = some { cls := .type "zip", data := .fields #[rawInt T, .bool true, .bool false, .ref TI, .ref TO] } → h'.objs.size = hp.objs.size → (∀ b o, b ≠ z → hp.get? b = some o → h'.get? b = some o) → Q' false ⟨h', g, d, tk0, os⟩) → wpAny (model prog w) A (if (Value.bool f1 != Value.bool true) = true then do
              setField (Value.ref z) 1 (Value.bool true)
              pure false
            else pure false) Q' E ⟨hp, g, d, tk0, os⟩ := fun Q' hq => by
    cases f1 with
    | true =>
      rw [if_neg (by decide)]
      exact wpAny_pure (hq hp hz rfl fun _ _ _ e => e)
    | false =>
      rw [if_pos (by decide)]
      exact wpAny_bind (wpAny_setField_rec hz (show 1 < 5 by omega) fun h' e1 e2 => wpAny_pure (hq h' e1 e2.1 fun b o hb e => (e2.2 b hb).trans e))
  dsimp only [Option.isNone]
  rw [if_neg Bool.false_ne_true]
  refine wpAny_bind (wpAny_field hz rfl rfl (mark _ fun h' ez es kp => ?_))
  rw [if_neg Bool.false_ne_true]
  have st1' : St1 i h' := D1.frame i _ _ st1 fun b hb o e => kp b o (fun q => S.zf1 (q ▸ hb)) e
  have st2' : St2 i h' := D2.frame i _ _ st2 fun b hb o e => kp b o (fun q => S.zf2 (q ▸ hb)) e
  rw [← Array.forIn_toList]
  dsimp only
  rw [List.forIn_cons]
  refine wpAny_bind (wpAny_bind (wpAny_bind (wpAny_holding ?_)))
  refine id (wpAny_bind (D1.item i _ _ _ h1 st1' fun x1 h1' tk1 p1 st1n sb1 => wpAny_pure ?_))
  dsimp only
  have st2a : St2 i h1' := D2.over st2' sb1 S.sep1_2
  refine wpAny_pure ?_
  dsimp only
  rw [List.forIn_cons]
  refine wpAny_bind (wpAny_bind (wpAny_holding ?_))
  refine id (wpAny_bind (D2.item i _ _ _ h2 st2a fun x2 h2' tk2 p2 st2n sb2 => wpAny_pure ?_))
  dsimp only
  refine wpAny_pure ?_
  dsimp only
  rw [List.forIn_nil]
  refine wpAny_pure ?_
  dsimp only
  refine wpAny_bind (wpAny_newTuple ?_ (by show 2 ≤ sizeLine; rw [sizeLine_eq]; omega))
  have zi1 : z ≠ i1 := fun e => S.zf1 (e ▸ S.mem1)
  have zi2 : z ≠ i2 := fun e => S.zf2 (e ▸ S.mem2)
  have TOi1 : TO ≠ i1 := fun e => S.Tf1 (e ▸ S.mem1)
  have TOi2 : TO ≠ i2 := fun e => S.Tf2 (e ▸ S.mem2)
  have k2 : ∀ c o, c ≠ i1 → c ≠ i2 → h'.get? c = some o → h2'.get? c = some o := fun c o c1 c2 e => (sb2.2 c c2).trans ((sb1.2 c c1).trans e)
  have st1b : St1 (i + 1) h2' := D1.over st1n sb2 S.sep2_1
  refine id (wpAny_pure ⟨_, rfl, hQ x1 x2 h2'.objs.size (rawInt T) true _ tk2 p1 p2 ⟨T, rfl⟩ (Heap.get?_push_of_some _ (k2 z _ zi1 zi2 ez)) ⟨a1, a2, Heap.get?_push_of_some _ (k2 TO _ TOi1 TOi2 (kp TO _ S.TOz hTO))⟩
    (D1.frame _ _ _ st1b fun b _ o e => Heap.get?_push_of_some _ e) (D2.frame _ _ _ st2n fun b _ o e => Heap.get?_push_of_some _ e) ?_ (Heap.get?_push_size _ rfl) fun c o c1 c2 c3 c4 e => Heap.get?_push_of_some _ (k2 c o c3 c4 (kp c o c1 e))⟩)
  have q1 : h1'.objs.size = h'.objs.size := sb1.1
  have q2 : h2'.objs.size = h1'.objs.size := sb2.1
  show hp.objs.size ≤ h2'.objs.size
  omega
theorem alive_none {M : Model} {A : Around} {E : Value → Shared → Prop} {s : Shared} {a : Addr} {Q : Option Obj → Shared → Prop} (h : s.heap.get? a = none) (q : Q none s) : wpAny M A (loadIfAlive a) Q E s := by
  intro Γ p hΓ
  unfold loadIfAlive
  rw [Sem.wp_loadIfAlive, h]
  exact (wpAny_pure (M := M) (A := A) (E := E) q) Γ p hΓ
theorem zip_item_free {prog : Program} {w : World} {A : Around} {E : Value → Shared → Prop} {s : Shared} {z TI TO i1 i2 : Addr} {f0 : Value} {f1 : Bool} {fp1 fp2 : List Addr} {n1 n2 i : Nat} {P1 P2 : Nat → Value → Prop} {St1 St2 : Nat → Heap → Prop} {Q : Value → Shared → Prop}
    (S : ZipSep2 z TI TO i1 i2 fp1 fp2) (D1 : Draws prog w A i1 fp1 n1 P1 St1) (D2 : Draws prog w A i2 fp2 n2 P2 St2)
    (hz : s.heap.get? z = some { cls := .type "zip", data := .fields #[f0, .bool f1, .bool false, .ref TI, .ref TO] }) (hTI : IsTupOf2 s.heap TI (.ref i1) (.ref i2)) (hf : f0 = .none ∨ ∃ T : Addr, f0 = rawInt T ∧ s.heap.get? T = none) {a1 a2 : Value} (hTO : IsTupOf2 s.heap TO a1 a2)
    (st1 : St1 i s.heap) (st2 : St2 i s.heap) (h1 : i < n1) (h2 : i < n2)
    (hQ : ∀ (x1 x2 : Value) (R : Addr) (f0 : Value) (f1 : Bool) (h' : Heap) (tk : Nat), P1 i x1 → P2 i x2 → (∃ T : Addr, f0 = rawInt T) → h'.get? z = some { cls := .type "zip", data := .fields #[f0, .bool f1, .bool false, .ref TI, .ref TO] } → (∃ a1 a2, IsTupOf2 h' TO a1 a2) → St1 (i + 1) h' → St2 (i + 1) h' → s.heap.objs.size ≤ R → IsTupOf2 h' R x1 x2 → (∀ c o, c ≠ z → c ≠ TO → c ≠ i1 → c ≠ i2 → s.heap.get? c = some o → h'.get? c = some o) → Q (.ref R) { heap := h', gens := s.gens, drawn := s.drawn, toks := tk, os := s.os }) : wpAny (model prog w) A (Builtin.«zip.__next__» { pos := [.ref z] }) (fun fin s' => ∃ v, fin = Fin.done (Flow.ret v) ∧ Q v s') E s := by
  obtain ⟨hp, g, d, tk0, os⟩ := s
  unfold Builtin.«zip.__next__»
  refine wpAny_bind (show wpAny _ _ (slotArgs _ _ _) _ _ _ from wpAny_pure ?_)
  try dsimp only
  refine wpAny_bind (wpAny_field hz rfl rfl ?_)
  refine id (wpAny_bind (wpAny_field hz rfl rfl (wpAny_bind (wpAny_seqItems hTI rfl ?_))))
  try dsimp only
  refine id (wpAny_bind ?_)
  have fr : ∀ Q' : Bool → Shared → Prop, Q' true ⟨hp, g, d, tk0, os⟩ → wpAny (model prog w) A (Builtin.SmallTypes.ownedTupleIsFree (.ref z)) Q' E ⟨hp, g, d, tk0, os⟩ := fun Q' q => by
    unfold Builtin.SmallTypes.ownedTupleIsFree
    refine wpAny_bind (wpAny_field hz rfl rfl ?_)
    rcases hf with rfl | ⟨T, rfl, hT⟩
    · exact wpAny_pure q
    · refine id (wpAny_bind (alive_none (by rw [Int.toNat_natCast]; exact hT) ?_))
      exact wpAny_pure q
  refine fr _ ?_
  rw [if_pos rfl]
  have zi1 : z ≠ i1 := fun e => S.zf1 (e ▸ S.mem1)
  have zi2 : z ≠ i2 := fun e => S.zf2 (e ▸ S.mem2)
  have TOi1 : TO ≠ i1 := fun e => S.Tf1 (e ▸ S.mem1)
  have TOi2 : TO ≠ i2 := fun e => S.Tf2 (e ▸ S.mem2)
  refine wpAny_bind (wpAny_rule (wpAny_bind (wpAny_field hz rfl rfl ?_)))
  try dsimp only
  refine wpAny_bind (wpAny_setField_rec hz (show 0 < 5 by omega) fun h' ez sb0 => ?_)
  try dsimp only [List.zipIdx]
  rw [List.forIn_cons]
  have st1' : St1 i h' := D1.over st1 sb0 S.zf1
  have st2' : St2 i h' := D2.over st2 sb0 S.zf2
  have hU0 : IsTupOf2 h' TO a1 a2 := (sb0.2 TO S.TOz).trans hTO
  refine wpAny_bind (wpAny_bind (wpAny_bind (wpAny_onRaise (id (wpAny_bind (D1.item i _ _ _ h1 st1' fun x1 h1' tk1 p1 st1n sb1 => wpAny_pure ?_))))))
  try dsimp only
  have hU1 : IsTupOf2 h1' TO a1 a2 := (sb1.2 TO TOi1).trans hU0
  refine wpAny_bind (wpAny_seqItems hU1 rfl ?_)
  try dsimp only
  have hU2 := Heap.get?_update_self (Obj.mapSeq fun x_1 => x_1.setIfInBounds 0 x1) hU1 rfl
  have ot1 : ∀ b o, b ≠ TO → h1'.get? b = some o → (h1'.update TO (Obj.mapSeq fun x_1 => x_1.setIfInBounds 0 x1)).get? b = some o := fun b o hb e => (Heap.get?_update_other h1' _ (Ne.symm hb)).trans e
  have sz1 : (h1'.update TO (Obj.mapSeq fun x_1 => x_1.setIfInBounds 0 x1)).objs.size = h1'.objs.size := Heap.size_update _ _ _
  refine wpAny_bind (wpAny_updateSeq hU1 rfl (wpAny_bind (wpAny_letGo (wpAny_pure ?_))) (by show 2 ≤ sizeLine; rw [sizeLine_eq]; omega) (by show 2 ≤ sizeLine + 1; rw [sizeLine_eq]; omega))
  generalize h1'.update TO (Obj.mapSeq fun x_1 => x_1.setIfInBounds 0 x1) = g1 at hU2 ot1 sz1
  try dsimp only
  rw [List.forIn_cons]
  have st2a : St2 i g1 := D2.frame i _ _ (D2.over st2' sb1 S.sep1_2) fun b hb o e => ot1 b o (fun q => S.Tf2 (q ▸ hb)) e
  have st1a : St1 (i + 1) g1 := D1.frame _ _ _ st1n fun b hb o e => ot1 b o (fun q => S.Tf1 (q ▸ hb)) e
  refine wpAny_bind (wpAny_bind (wpAny_onRaise (id (wpAny_bind (D2.item i _ _ _ h2 st2a fun x2 h2' tk2 p2 st2n sb2 => wpAny_pure ?_)))))
  try dsimp only
  have hU3 := (sb2.2 TO TOi2).trans hU2
  refine wpAny_bind (wpAny_seqItems hU3 rfl ?_)
  try dsimp only
  have hU4 := Heap.get?_update_self (Obj.mapSeq fun x_1 => x_1.setIfInBounds (0 + 1) x2) hU3 rfl
  have ot2 : ∀ b o, b ≠ TO → h2'.get? b = some o → (h2'.update TO (Obj.mapSeq fun x_1 => x_1.setIfInBounds (0 + 1) x2)).get? b = some o := fun b o hb e => (Heap.get?_update_other h2' _ (Ne.symm hb)).trans e
  have sz2 : (h2'.update TO (Obj.mapSeq fun x_1 => x_1.setIfInBounds (0 + 1) x2)).objs.size = h2'.objs.size := Heap.size_update _ _ _
  refine wpAny_bind (wpAny_updateSeq hU3 rfl (wpAny_bind (wpAny_letGo (wpAny_pure ?_))) (by show 2 ≤ sizeLine; rw [sizeLine_eq]; omega) (by show 2 ≤ sizeLine + 1; rw [sizeLine_eq]; omega))
  generalize h2'.update TO (Obj.mapSeq fun x_1 => x_1.setIfInBounds (0 + 1) x2) = g2 at hU4 ot2 sz2
  try dsimp only
  rw [List.forIn_nil]
  refine wpAny_pure ?_
  try dsimp only
  refine wpAny_bind (wpAny_seqItems hU4 rfl ?_)
  try dsimp only
  refine wpAny_bind (wpAny_newTuple ?_ (by show 2 ≤ sizeLine; rw [sizeLine_eq]; omega))
  have st1b : St1 (i + 1) g2 := D1.frame _ _ _ (D1.over st1a sb2 S.sep2_1) fun b hb o e => ot2 b o (fun q => S.Tf1 (q ▸ hb)) e
  have st2b : St2 (i + 1) g2 := D2.frame _ _ _ st2n fun b hb o e => ot2 b o (fun q => S.Tf2 (q ▸ hb)) e
  have kz : ∀ c o, c ≠ TO → c ≠ i1 → c ≠ i2 → h'.get? c = some o → g2.get? c = some o := fun c o c1 c2 c3 e => ot2 c o c1 ((sb2.2 c c3).trans (ot1 c o c1 ((sb1.2 c c2).trans e)))
  have ez2 := kz z _ (Ne.symm S.TOz) zi1 zi2 ez
  unfold Builtin.SmallTypes.ownedTupleHandOut
  try dsimp only
  refine id (wpAny_bind (wpAny_bind (wpAny_setField_rec (Heap.get?_push_of_some _ ez2) (show 0 < 5 by omega) fun h3 e3 sb3 => wpAny_setField_rec e3 (show 1 < 5 by omega) fun h4 e4 sb4 => ?_)))
  have q0 : h'.objs.size = hp.objs.size := sb0.1
  have q1 : h1'.objs.size = h'.objs.size := sb1.1
  have q2 : h2'.objs.size = g1.objs.size := sb2.1
  have zR : z ≠ g2.objs.size := Nat.ne_of_lt (Heap.lt_size ez2)
  have up : ∀ c o, c ≠ z → g2.get? c = some o → h4.get? c = some o := fun c o cz e => (sb4.2 c cz).trans ((sb3.2 c cz).trans (Heap.get?_push_of_some _ e))
  refine id (wpAny_pure ⟨_, rfl, hQ x1 x2 g2.objs.size (rawInt (g2.objs.size : Nat)) false h4 tk2 p1 p2 ⟨_, rfl⟩ e4 ⟨x1, x2, up TO _ S.TOz hU4⟩ (D1.frame _ _ _ st1b fun b hb o e => up b o (fun q => S.zf1 (q ▸ hb)) e) (D2.frame _ _ _ st2b fun b hb o e => up b o (fun q => S.zf2 (q ▸ hb)) e) ?_
    ((sb4.2 _ (Ne.symm zR)).trans ((sb3.2 _ (Ne.symm zR)).trans (Heap.get?_push_size _ rfl))) fun c o c1 c2 c3 c4 e => up c o c1 (kz c o c2 c3 c4 ((sb0.2 c c1).trans e))⟩)
  show hp.objs.size ≤ g2.objs.size
  omega
theorem zip_done {prog : Program} {w : World} {A : Around} {E : Value → Shared → Prop} {s : Shared} {z TI TO i1 i2 : Addr} {f0 : Value} {f1 : Bool} {fp1 fp2 : List Addr} {n1 : Nat} {P1 : Nat → Value → Prop} {St1 : Nat → Heap → Prop} {Q : PySem.Fin → Shared → Prop}
    (S : ZipSep2 z TI TO i1 i2 fp1 fp2) (D1 : Draws prog w A i1 fp1 n1 P1 St1)
    (hz : s.heap.get? z = some { cls := .type "zip", data := .fields #[f0, .bool f1, .bool false, .ref TI, .ref TO] }) (hTI : IsTupOf2 s.heap TI (.ref i1) (.ref i2)) (hf : f0 = .none ∨ ∃ T : Addr, f0 = rawInt T)
    (st1 : St1 n1 s.heap)
    (hQ : ∀ (h' : Heap) (e : Addr), (∀ c o, c ≠ z → c ≠ i1 → s.heap.get? c = some o → h'.get? c = some o) → (∃ o, h'.get? e = some o ∧ o.cls = .type "StopIteration") → E (.ref e) { heap := h', gens := s.gens, drawn := s.drawn, toks := s.toks, os := s.os }) : wpAny (model prog w) A (Builtin.«zip.__next__» { pos := [.ref z] }) Q E s := by
  obtain ⟨hp, g, d, tk0, os⟩ := s
  unfold Builtin.«zip.__next__»
  refine wpAny_bind (show wpAny _ _ (slotArgs _ _ _) _ _ _ from wpAny_pure ?_)
  try dsimp only
  refine wpAny_bind (wpAny_field hz rfl rfl ?_)
  refine id (wpAny_bind (wpAny_field hz rfl rfl (wpAny_bind (wpAny_seqItems hTI rfl ?_))))
  try dsimp only
  refine id (wpAny_bind ?_)
  have zi1 : z ≠ i1 := fun e => S.zf1 (e ▸ S.mem1)
  have fr : ∀ Q' : Bool → Shared → Prop, Q' true ⟨hp, g, d, tk0, os⟩ → (∀ h', (∃ f1' : Bool, h'.get? z = some { cls := .type "zip", data := .fields #[f0, .bool f1', .bool false, .ref TI, .ref TO] }) → (∀ b o, b ≠ z → hp.get? b = some o → h'.get? b = some o) → Q' false ⟨h', g, d, tk0, os⟩) → wpAny (model prog w) A (Builtin.SmallTypes.ownedTupleIsFree (.ref z)) Q' E ⟨hp, g, d, tk0, os⟩ := fun Q' q hq => by
    unfold Builtin.SmallTypes.ownedTupleIsFree
    refine wpAny_bind (wpAny_field hz rfl rfl ?_)
    rcases hf with rfl | ⟨T, rfl⟩
    · exact wpAny_pure q
    · cases hT : hp.get? T with
      | none =>
        refine id (wpAny_bind (alive_none (by rw [Int.toNat_natCast]; exact hT) ?_))
        exact wpAny_pure q
      | some oT =>
        refine id (wpAny_bind (W.kdx_alive (o := oT) (by rw [Int.toNat_natCast]; exact hT) ?_))
        dsimp only [Option.isNone]
        rw [if_neg Bool.false_ne_true]
        refine wpAny_bind (wpAny_field hz rfl rfl ?_)
        cases f1 with
        | true => exact id (wpAny_pure (hq hp ⟨true, hz⟩ fun _ _ _ e => e))
        | false => exact id (wpAny_bind (wpAny_setField_rec hz (show 1 < 5 by omega) fun h' e1 e2 => wpAny_pure (hq h' ⟨true, e1⟩ fun b o hb e => (e2.2 b hb).trans e)))
  refine fr _ ?_ fun h' ⟨f1', ez⟩ kp => ?_
  · rw [if_pos rfl]
    refine wpAny_bind (wpAny_rule (wpAny_bind (wpAny_field hz rfl rfl ?_)))
    try dsimp only
    refine wpAny_bind (wpAny_setField_rec hz (show 0 < 5 by omega) fun h' ez sb0 => ?_)
    try dsimp only [List.zipIdx]
    rw [List.forIn_cons]
    have st1' : St1 n1 h' := D1.over st1 sb0 S.zf1
    refine wpAny_bind (wpAny_bind (wpAny_bind (wpAny_onRaise (id (wpAny_bind (D1.done _ _ _ st1' fun h1' e ex he => ?_))))))
    have ez1 := ex z _ zi1 ez
    refine wpAny_setField_rec ez1 (show 0 < 5 by omega) fun h2' ez2 sb2 => ?_
    obtain ⟨o, ho, hc⟩ := he
    have ne : e ≠ z := fun q => by
      rw [q, ez1] at ho
      cases ho
      exact absurd (Value.type.inj hc) (by decide)
    exact hQ h2' e (fun c o c1 c2 q => (sb2.2 c c1).trans (ex c o c2 ((sb0.2 c c1).trans q))) ⟨o, (sb2.2 e ne).trans ho, hc⟩
  · rw [if_neg Bool.false_ne_true]
    have st1' : St1 n1 h' := D1.frame n1 _ _ st1 fun b hb o e => kp b o (fun q => S.zf1 (q ▸ hb)) e
    rw [← Array.forIn_toList]
    try dsimp only
    rw [List.forIn_cons]
    refine wpAny_bind (wpAny_bind (wpAny_bind (wpAny_holding ?_)))
    refine id (wpAny_bind (D1.done _ _ _ st1' fun h1' e ex he => ?_))
    exact hQ h1' e (fun c o c1 c2 q => ex c o c2 (kp c o c1 q)) he
/-- zip's turns, its first iterable the one that ends -/
theorem zip_turn {prog : Program} {w : World} {A : Around} {E : Value → Shared → Prop} {s : Shared} {z TI TO i1 i2 : Addr} {f0 : Value} {f1 : Bool} {fp1 fp2 : List Addr} {n1 n2 i : Nat} {P1 P2 : Nat → Value → Prop} {St1 St2 : Nat → Heap → Prop} {Q : Option Value → Shared → Prop}
    (S : ZipSep2 z TI TO i1 i2 fp1 fp2) (D1 : Draws prog w A.in1 i1 fp1 n1 P1 St1) (D2 : Draws prog w A.in1 i2 fp2 n2 P2 St2)
    (hz : s.heap.get? z = some { cls := .type "zip", data := .fields #[f0, .bool f1, .bool false, .ref TI, .ref TO] }) (hTI : IsTupOf2 s.heap TI (.ref i1) (.ref i2)) (hf : f0 = .none ∨ ∃ T : Addr, f0 = rawInt T) {a1 a2 : Value} (hTO : IsTupOf2 s.heap TO a1 a2)
    (st1 : St1 i s.heap) (st2 : St2 i s.heap) (h1 : i < n1) (h2 : i < n2)
    (hQ : ∀ (x1 x2 : Value) (R : Addr) (f0 : Value) (f1 : Bool) (h' : Heap) (tk : Nat), P1 i x1 → P2 i x2 → (∃ T : Addr, f0 = rawInt T) → h'.get? z = some { cls := .type "zip", data := .fields #[f0, .bool f1, .bool false, .ref TI, .ref TO] } → (∃ a1 a2, IsTupOf2 h' TO a1 a2) → St1 (i + 1) h' → St2 (i + 1) h' → s.heap.objs.size ≤ R → IsTupOf2 h' R x1 x2 → (∀ c o, c ≠ z → c ≠ TO → c ≠ i1 → c ≠ i2 → s.heap.get? c = some o → h'.get? c = some o) → Q (some (.ref R)) { heap := h', gens := s.gens, drawn := s.drawn, toks := tk, os := s.os }) : wpAny (model prog w) A (pyNext (.ref z)) Q E s := by
  have hT : s.TypeIs (.ref z) "zip" := ⟨_, hz, rfl⟩
  refine id (wpAny_bind (wpAny_attempt (wpAny_callSpecial?_slot hT F.slot_zip_next (wpAny_call_entry F.slot_zip_next hT F.entry_zip_next ?_ (F.args_zip_next_1 (.ref z))))))
  have fin : ∀ (x1 x2 : Value) (R : Addr) (f0 : Value) (f1 : Bool) (h' : Heap) (tk : Nat), P1 i x1 → P2 i x2 → (∃ T : Addr, f0 = rawInt T) → h'.get? z = some { cls := .type "zip", data := .fields #[f0, .bool f1, .bool false, .ref TI, .ref TO] } → (∃ a1 a2, IsTupOf2 h' TO a1 a2) → St1 (i + 1) h' → St2 (i + 1) h' → s.heap.objs.size ≤ R → IsTupOf2 h' R x1 x2 → (∀ c o, c ≠ z → c ≠ TO → c ≠ i1 → c ≠ i2 → s.heap.get? c = some o → h'.get? c = some o) → wpAny (model prog w) A (pure (some (Value.ref R))) Q E { heap := h', gens := s.gens, drawn := s.drawn, toks := tk, os := s.os } := fun x1 x2 R f0 f1 h' tk a b c d e f g h i j => wpAny_pure (hQ x1 x2 R f0 f1 h' tk a b c d e f g h i j)
  rcases hf with rfl | ⟨T, rfl⟩
  · exact zip_item_free S D1 D2 hz hTI (.inl rfl) hTO st1 st2 h1 h2 fin
  · cases hT : s.heap.get? T with
    | none => exact zip_item_free S D1 D2 hz hTI (.inr ⟨T, rfl, hT⟩) hTO st1 st2 h1 h2 fin
    | some oT => exact zip_item_held S D1 D2 hz hTI hT hTO st1 st2 h1 h2 fin
theorem zip_stop {prog : Program} {w : World} {A : Around} {E : Value → Shared → Prop} {s : Shared} {z TI TO i1 i2 : Addr} {f0 : Value} {f1 : Bool} {fp1 fp2 : List Addr} {n1 : Nat} {P1 : Nat → Value → Prop} {St1 : Nat → Heap → Prop} {Q : Option Value → Shared → Prop}
    (S : ZipSep2 z TI TO i1 i2 fp1 fp2) (D1 : Draws prog w A.in1 i1 fp1 n1 P1 St1)
    (hz : s.heap.get? z = some { cls := .type "zip", data := .fields #[f0, .bool f1, .bool false, .ref TI, .ref TO] }) (hTI : IsTupOf2 s.heap TI (.ref i1) (.ref i2)) (hf : f0 = .none ∨ ∃ T : Addr, f0 = rawInt T)
    (st1 : St1 n1 s.heap) (hQ : ∀ (h' : Heap), (∀ c o, c ≠ z → c ≠ i1 → s.heap.get? c = some o → h'.get? c = some o) → Q none { heap := h', gens := s.gens, drawn := s.drawn, toks := s.toks, os := s.os }) : wpAny (model prog w) A (pyNext (.ref z)) Q E s := by
  have hT : s.TypeIs (.ref z) "zip" := ⟨_, hz, rfl⟩
  refine id (wpAny_bind (wpAny_attempt (wpAny_callSpecial?_slot hT F.slot_zip_next (wpAny_call_entry F.slot_zip_next hT F.entry_zip_next ?_ (F.args_zip_next_1 (.ref z))))))
  refine zip_done S D1 hz hTI hf st1 fun h' e hk he => ?_
  obtain ⟨o, ho, hc⟩ := he
  exact wpAny_bind (wpAny_isInstance ⟨o, ho, hc⟩ isSubtype_stop (wpAny_pure (hQ h' hk)))
end DL
set_option Elab.async false
set_option linter.all false
set_option maxRecDepth 100000
set_option maxHeartbeats 4000000
/-! list(it) over an iterator, told by an invariant of the heap -/
namespace DL
open PySem PySem.Spec PyProof.Rows L2
abbrev LstAt (h : Heap) (S : Addr) (acc : Array Value) : Prop := ∃ c, h.get? S = some { cls := .type "list", data := .seq acc c }
section
variable {prog : Program} {w : World} {A : Around} {it : Value} {n : Nat} {S : Addr} {I : Nat → Array Value → Shared → Prop} {Fi : Array Value → Shared → Prop}
/-- what the turns do -/
structure Turns (prog : Program) (w : World) (A : Around) (it : Value) (n : Nat) (S : Addr) (I : Nat → Array Value → Shared → Prop) (Fi : Array Value → Shared → Prop) : Prop where
  lst : ∀ i acc s, I i acc s → acc.size = i ∧ LstAt s.heap S acc
  item : ∀ i acc s (Q : Option Value → Shared → Prop) (E : Value → Shared → Prop), i < n → I i acc s → (∀ v s', LstAt s'.heap S acc → (∀ h', LstAt h' S (acc.push v) → (∀ b o, b ≠ S → s'.heap.get? b = some o → h'.get? b = some o) → h'.objs.size = s'.heap.objs.size → I (i + 1) (acc.push v) ⟨h', s'.gens, s'.drawn, s'.toks, s'.os⟩) → Q (some v) s') →
    wpAny (model prog w) A (pyNext it) Q E s
  done : ∀ acc s (Q : Option Value → Shared → Prop) (E : Value → Shared → Prop), I n acc s → (∀ s', Fi acc s' → Q none s') → wpAny (model prog w) A (pyNext it) Q E s
theorem extend_loop_I {R : Result → Shared → Prop} {res : Value} (T : Turns prog w A.in1 it n S I Fi) (hn : n ≤ sizeLine) (hR : ∀ acc s', Fi acc s' → R (.ok (.ret res)) s') :
    ∀ k i acc s, n - i = k → i ≤ n → I i acc s → codeAny (model prog w) A (.builtin "list.extend.loop" { pos := [.ref S, it, res] }) R s
  | 0, i, acc, s, hk, hi, hI => by
    have hin : i = n := by omega
    subst hin
    refine codeAny_builtin F.entry_extend_loop ?_
    rw [Around.under_plainId F.plain_extend_loop]
    exact id (wpAny_bind (T.done acc s _ _ hI fun s' hf => wpAny_pure (hR acc s' hf)))
  | k + 1, i, acc, s, hk, hi, hI => by
    refine codeAny_builtin F.entry_extend_loop ?_
    rw [Around.under_plainId F.plain_extend_loop]
    refine id (wpAny_bind (T.item i acc s _ _ (by omega) hI fun v s' ⟨c, hS⟩ hnx => ?_))
    have sz := (T.lst i acc s hI).1
    refine id (wpAny_bind (wpAny_updateSeq hS rfl (wpAny_pure ⟨plainId_quiet F.plain_extend_loop _, ?_⟩) (by omega) (by rw [Array.size_push]; omega)))
    exact extend_loop_I T hn hR k (i + 1) (acc.push v) _ (by omega) (by omega) (hnx _ ⟨_, Heap.get?_update_self (Obj.mapSeq fun x => x.push v) hS rfl⟩ (fun b o hb e => (Heap.get?_update_other s'.heap (Obj.mapSeq fun x => x.push v) (Ne.symm hb)).trans e) (Heap.size_update _ _ _))
theorem extend_I {s : Shared} {R : Result → Shared → Prop} {z : Addr} {T : String}
    (hl : typeLookup (.type T) "__len__" = pure none) (hn0 : typeLookup (.type T) "__length_hint__" = pure none) (h2 : (Value.type T == Value.type "list") = false) (h3 : (Value.type T == Value.type "tuple") = false)
    (W : Turns prog w A.in1 (.ref z) n S I Fi) (hT : s.TypeIs (.ref z) T) (hz : S ≠ z) (self : ∀ (Q E : Value → Shared → Prop), Q (.ref z) s → wpAny (model prog w) A.in1 (pyIter (.ref z)) Q E s) (res : Value) (hS : LstAt s.heap S #[])
    (init : ∀ h', LstAt h' S #[] → (∀ b o, b ≠ S → s.heap.get? b = some o → h'.get? b = some o) → h'.objs.size = s.heap.objs.size → I 0 #[] ⟨h', s.gens, s.drawn, s.toks, s.os⟩)
    (hR : ∀ acc s', Fi acc s' → R (.ok (.ret res)) s') (hn : n ≤ sizeLine) :
    wpAny (model prog w) A.in1 (Builtin.List.listExtendWith (.ref S) (.ref z) res) (fun fin s' => match fin with | .done f => R (.ok f) s' | .again c' => c'.quiet = true ∧ codeAny (model prog w) A c' R s') (fun e s' => R (.error e) s') s := by
  obtain ⟨c₀, hS⟩ := hS
  unfold Builtin.List.listExtendWith
  refine wpAny_bind (wpAny_typeOf hT ?_)
  rw [if_neg (by rw [h2, h3, Bool.or_false, Bool.or_false]; show ¬ ((S == z) = true); simpa using hz)]
  refine wpAny_bind (self _ _ ?_)
  refine wpAny_bind (wpAny_holding ?_)
  unfold Builtin.List.listLengthHint
  refine wpAny_bind (wpAny_specialOf hT hl ?_)
  refine id (wpAny_bind (wpAny_specialOf hT hn0 (wpAny_pure ?_)))
  refine id (wpAny_bind (wpAny_rule ?_))
  unfold Builtin.List.listTouch
  have hS₂ := Heap.get?_update_self (Obj.mapSeq fun x => x.push Value.none) hS rfl
  have hS₃ := Heap.get?_update_self (Obj.mapSeq fun x => x.pop) hS₂ rfl
  have oth : ∀ b o, b ≠ S → s.heap.get? b = some o → ((s.heap.update S (Obj.mapSeq fun x => x.push Value.none)).update S (Obj.mapSeq fun x => x.pop)).get? b = some o := fun b o hb e =>
    (Heap.get?_update_other (s.heap.update S (Obj.mapSeq fun x => x.push Value.none)) (Obj.mapSeq fun x => x.pop) (Ne.symm hb)).trans ((Heap.get?_update_other s.heap (Obj.mapSeq fun x => x.push Value.none) (Ne.symm hb)).trans e)
  refine wpAny_bind (wpAny_bind (wpAny_updateSeq hS rfl (wpAny_updateSeq hS₂ rfl ?_ (by simp [sizeLine_eq]) (by simp [sizeLine_eq])) (by simp [sizeLine_eq]) (by simp [sizeLine_eq])))
  exact wpAny_pure ⟨plainId_quiet F.plain_extend_loop _, extend_loop_I W hn hR n 0 #[] _ (by omega) (by omega) (init _ ⟨_, hS₃⟩ oth (by rw [Heap.size_update, Heap.size_update]))⟩
end
/-- list(z), z an iterator of the type T -/
theorem call_list_I {prog : Program} {w : World} {A : Around} {n : Nat} {Fi : Array Value → Shared → Prop} {E : Value → Shared → Prop} {s : Shared} {z : Addr} {T : String} {Q : Value → Shared → Prop} {I : Nat → Array Value → Shared → Prop}
    (hl : typeLookup (.type T) "__len__" = pure none) (hn0 : typeLookup (.type T) "__length_hint__" = pure none) (h2 : (Value.type T == Value.type "list") = false) (h3 : (Value.type T == Value.type "tuple") = false)
    (W : Turns prog w A.in1.in1 (.ref z) n s.heap.objs.size I Fi) (hT : ∀ h', (∀ b o, s.heap.get? b = some o → h'.get? b = some o) → Shared.TypeIs ⟨h', s.gens, s.drawn, s.toks, s.os⟩ (.ref z) T) (hz : z < s.heap.objs.size)
    (self : ∀ h', (∀ b o, s.heap.get? b = some o → h'.get? b = some o) → ∀ (Q E : Value → Shared → Prop), Q (.ref z) ⟨h', s.gens, s.drawn, s.toks, s.os⟩ → wpAny (model prog w) A.in1.in1 (pyIter (.ref z)) Q E ⟨h', s.gens, s.drawn, s.toks, s.os⟩)
    (init : ∀ h', LstAt h' s.heap.objs.size #[] → (∀ b o, s.heap.get? b = some o → h'.get? b = some o) → h'.objs.size = s.heap.objs.size + 1 → I 0 #[] ⟨h', s.gens, s.drawn, s.toks, s.os⟩)
    (hQ : ∀ acc s', Fi acc s' → Q (.ref s.heap.objs.size) s') (hn : n ≤ sizeLine) : wpAny (model prog w) A (call (.type "list") [.ref z]) Q E s := by
  refine callType_codes (Q₁ := fun v s1 => v = .ref s.heap.objs.size ∧ s1 = { heap := s.heap.push { cls := .type "list", data := .seq #[] }, gens := s.gens, drawn := s.drawn, toks := s.toks, os := s.os }) F.called_list (F.typeCall_list_1 (.ref z)) F.entry_list_init (code_list_new (.ref z) ⟨rfl, rfl⟩) fun obj s₁ h₁ => ?_
  obtain ⟨e1, e2⟩ := h₁
  rw [e1, e2]
  have hS := Heap.get?_push_size s.heap (o := { cls := .type "list", data := .seq #[] }) rfl
  refine ⟨⟨_, hS, rfl⟩, F.args_list_init_2 _ _, ?_⟩
  have hS₂ := Heap.get?_update_self (Obj.mapSeq fun x => #[]) hS rfl
  have szp : (s.heap.push { cls := .type "list", data := .seq #[] }).objs.size = s.heap.objs.size + 1 := Heap.size_push _ _
  have old : ∀ b o, s.heap.get? b = some o → ((s.heap.push { cls := .type "list", data := .seq #[] }).update s.heap.objs.size (Obj.mapSeq fun x => #[])).get? b = some o := fun b o e =>
    (Heap.get?_update_other _ (Obj.mapSeq fun x => #[]) (Ne.symm (Nat.ne_of_lt (Heap.lt_size e)))).trans (Heap.get?_push_of_some _ e)
  refine id (wpAny_bind (id (wpAny_bind (wpAny_seqItems hS rfl (wpAny_pure (id (wpAny_bind (wpAny_updateSeq hS rfl (wpAny_bind (wpAny_letGo ?_)) (by simp [sizeLine_eq]) (by simp [sizeLine_eq])))))))))
  refine extend_I (S := s.heap.objs.size) (z := z) hl hn0 h2 h3 W (hT _ old) (Nat.ne_of_gt hz) (self _ old) .none ⟨_, hS₂⟩ (fun h' hl' ho hs' => init h' hl' (fun b o e => ho b o (Nat.ne_of_lt (Heap.lt_size e)) (old b o e)) ?_) (fun acc s' hf => ⟨rfl, hQ acc s' hf⟩) hn
  rw [hs', Heap.size_update]
  exact szp
end DL
set_option Elab.async false
set_option linter.all false
set_option maxRecDepth 100000
set_option maxHeartbeats 4000000
/-! list(zip(a, b)), a and b lists or tuples of one length -/
namespace DL
open PySem PySem.Spec PyProof.Rows L2
def updL (H : Hp) : List (Addr × HO) → Hp
  | [] => H
  | p :: l => updL (upd H p.1 p.2) l
theorem updL_off : ∀ (l : List (Addr × HO)) (H : Hp) (b : Addr), (∀ p ∈ l, p.1 ≠ b) → updL H l b = H b
  | [], _, _, _ => rfl
  | p :: l, H, b, h => by
    show updL (upd H p.1 p.2) l b = H b
    rw [updL_off l _ b fun q hq => h q (List.mem_cons_of_mem _ hq), upd_ne (Ne.symm (h p List.mem_cons_self))]
theorem updL_at : ∀ (l : List (Addr × HO)) (H : Hp) (p : Addr × HO), p ∈ l → (l.map (·.1)).Nodup → updL H l p.1 = some p.2
  | q :: l, H, p, hp, hn => by
    show updL (upd H q.1 q.2) l p.1 = some p.2
    rw [List.map_cons, List.nodup_cons] at hn
    rcases List.mem_cons.mp hp with rfl | hp
    · rw [updL_off l _ _ fun r hr e => hn.1 (List.mem_map.mpr ⟨r, hr, e⟩), upd_same]
    · exact updL_at l _ p hp hn.2
theorem hok_many {P : Program} {w : World} {h' : Heap} : ∀ (l : List (Addr × HO)) (H : Hp), HOk P w H h' → (∀ p ∈ l, H p.1 = none ∧ ∀ H' : Hp, ObjOk P w H' h' p.1 p.2) → (l.map (·.1)).Nodup → HOk P w (updL H l) h'
  | [], _, k, _, _ => k
  | p :: l, H, k, hl, hn => by
    rw [List.map_cons, List.nodup_cons] at hn
    refine hok_many l (upd H p.1 p.2) (HOk.laidN k (fun _ _ e => e) (hl p List.mem_cons_self).1 ((hl p List.mem_cons_self).2 _)) (fun q hq => ⟨?_, (hl q (List.mem_cons_of_mem _ hq)).2⟩) hn.2
    rw [upd_ne fun e => hn.1 (List.mem_map.mpr ⟨q, hq, e⟩)]
    exact (hl q (List.mem_cons_of_mem _ hq)).1
/-- many new objects at once -/
theorem inv_many {X : Cx} {pins : List (Addr × Obj)} {σ : List (Option V)} {H : Hp} {s : Shared} {h' : Heap} {t' : Nat} (I : Inv X pins σ H s) (hk : ∀ b u, s.heap.get? b = some u → h'.get? b = some u) (l : List (Addr × HO))
    (hl : ∀ p ∈ l, s.heap.objs.size ≤ p.1 ∧ ∀ H' : Hp, ObjOk X.prog X.w H' h' p.1 p.2) (hn : (l.map (·.1)).Nodup) : Inv X pins σ (updL H l) ⟨h', s.gens, s.drawn, t', s.os⟩ := by
  have low : ∀ b, b < s.heap.objs.size → updL H l b = H b := fun b hb => updL_off l H b fun p hp e => by
    have := (hl p hp).1
    rw [e] at this
    exact absurd hb (Nat.not_lt.mpr this)
  have at_ : ∀ b u, H b = some u → updL H l b = some u := fun b u e => by
    rw [low b]
    · exact e
    · by_cases hb : b < s.heap.objs.size
      · exact hb
      · rw [I.hok.fresh (Nat.not_lt.mp hb)] at e; cases e
  refine I.call (ch := []) ⟨fun b o q _ _ _ => hk b o q, fun b o q _ _ _ => ⟨o.slots, hk b o q⟩, fun b o q n _ => by rw [low b (Heap.lt_size q)]; exact n, fun b o q _ => ⟨o, hk b o q⟩, fun b xs q => at_ b _ q, fun b o u q => at_ b _ q, fun b ps q => ⟨#[], by rw [Array.append_empty]; exact at_ b _ q⟩⟩
    (hok_many l H (I.hok.kept hk) (fun p hp => ⟨I.hok.fresh (hl p hp).1, (hl p hp).2⟩) hn) I.bare fun b hb => nomatch hb
/-- what zip takes -/
def SqA (K : PySem.W.Frag) (H : Hp) (a : Addr) (xs : List V) : Prop := SqL K H a xs ∨ SqT K H a xs
/-- an iterable of zip, begun -/
structure Beg (A : Around) (prog : Program) (w : World) (a : Addr) (its : Array Value) (o : Obj) (Hh : Heap → Prop) (St : Addr → Nat → Heap → Prop) : Prop where
  beg : Begins (.ref a) o Hh
  dr : ∀ it, a ≠ it → Draws prog w A it [it, a] its.size (fun i v => its[i]? = some v) (St it)
  st : ∀ it h, h.get? it = some o → Hh h → St it 0 h
  lt : ∀ h, Hh h → a < h.objs.size
theorem beg_of {X : Cx} {pins : List (Addr × Obj)} {σ : List (Option V)} {H : Hp} {s : Shared} (I : Inv X pins σ H s) {a : Addr} {xs : List V} (h : SqA X.K H a xs) (A : Around) (hA : A.handled = none) : ∃ (its : List Value) (o : Obj) (Hh : Heap → Prop) (St : Addr → Nat → Heap → Prop), Vals xs its ∧ Beg A X.prog X.w a its.toArray o Hh St ∧ Hh s.heap ∧ xs.length ≤ sizeLine := by
  rcases h with h | h
  · obtain ⟨its, rv, hl, hz⟩ := I.list h
    refine ⟨its, _, _, fun it i h => h.IsListIter it a i ∧ h.IsList a its.toArray, rv, ⟨begins_list a its.toArray, fun it hne => Draws.list hA it a hne its.toArray, fun it h e hh => ⟨⟨_, e, rfl, rfl⟩, hh⟩, fun h ⟨o, e, _⟩ => Heap.lt_size e⟩, hl.isList, hz⟩
  · obtain ⟨its, rv, ht, hz⟩ := I.tuple h
    refine ⟨its, _, _, fun it i h => h.IsTupleIter it a i ∧ h.IsTuple a its.toArray, rv, ⟨begins_tuple a its.toArray, fun it hne => Draws.tuple hA it a hne its.toArray, fun it h e hh => ⟨⟨_, e, rfl, rfl⟩, hh⟩, fun h ⟨o, e, _⟩ => Heap.lt_size e⟩, ?_, hz⟩
    obtain ⟨o, e, hc, n, hd⟩ := ht
    exact ⟨o, e, hc, n, hd⟩
end DL
set_option Elab.async false
set_option linter.all false
set_option maxRecDepth 100000
set_option maxHeartbeats 4000000
/-! list(zip(a, b)), the run -/
namespace DL
open PySem PySem.Spec PyProof.Rows L2
theorem ngt {a b : Nat} (h : b < a) : a ≠ b := Nat.ne_of_gt h
theorem nlt {a b : Nat} (h : a < b) : a ≠ b := Nat.ne_of_lt h
/-- the tuples that were made -/
def Made2 (h : Heap) (L : Addr) (its1 its2 : List Value) (ps : List Addr) : Prop := ps.Nodup ∧ ∀ (j : Nat) (p : Addr), ps[j]? = some p → @LT.lt Nat _ L p ∧ ∃ x y, its1[j]? = some x ∧ its2[j]? = some y ∧ IsTupOf2 h p x y
structure ZipI (s : Shared) (N : Addr) (its1 its2 : List Value) (St1 St2 : Nat → Heap → Prop) (i : Nat) (acc : Array Value) (s' : Shared) : Prop where
  sz : acc.size = i
  lst : LstAt s'.heap (N + 5) acc
  z : ∃ f0 f1, (f0 = Value.none ∨ ∃ T : Addr, f0 = rawInt T) ∧ s'.heap.get? (N + 4) = some { cls := .type "zip", data := .fields #[f0, .bool f1, .bool false, .ref (N + 2), .ref (N + 3)] }
  ti : IsTupOf2 s'.heap (N + 2) (.ref N) (.ref (N + 1))
  to : ∃ a1 a2, IsTupOf2 s'.heap (N + 3) a1 a2
  st1 : St1 i s'.heap
  st2 : St2 i s'.heap
  old : ∀ c o, s.heap.get? c = some o → s'.heap.get? c = some o
  big : @LT.lt Nat _ (N + 5) s'.heap.objs.size
  g : s'.gens = s.gens
  d : s'.drawn = s.drawn
  os : s'.os = s.os
  ps : ∃ ps : List Addr, acc.toList = ps.map Value.ref ∧ Made2 s'.heap (N + 5) its1 its2 ps
structure ZipF (s : Shared) (N : Addr) (its1 its2 : List Value) (n : Nat) (acc : Array Value) (s' : Shared) : Prop where
  sz : acc.size = n
  lst : LstAt s'.heap (N + 5) acc
  old : ∀ c o, s.heap.get? c = some o → s'.heap.get? c = some o
  g : s'.gens = s.gens
  d : s'.drawn = s.drawn
  os : s'.os = s.os
  ps : ∃ ps : List Addr, acc.toList = ps.map Value.ref ∧ Made2 s'.heap (N + 5) its1 its2 ps
theorem zip_turns {prog : Program} {w : World} {A : Around} {s : Shared} {its1 its2 : List Value} {a b : Addr} {St1 St2 : Nat → Heap → Prop} (hl : its1.length = its2.length) (ha : @LT.lt Nat _ a s.heap.objs.size) (hb : @LT.lt Nat _ b s.heap.objs.size)
    (S : ZipSep2 (s.heap.objs.size + 4) (s.heap.objs.size + 2) (s.heap.objs.size + 3) s.heap.objs.size (s.heap.objs.size + 1) [s.heap.objs.size, a] [s.heap.objs.size + 1, b])
    (D1 : Draws prog w A.in1 s.heap.objs.size [s.heap.objs.size, a] its1.length (fun i v => its1[i]? = some v) St1) (D2 : Draws prog w A.in1 (s.heap.objs.size + 1) [s.heap.objs.size + 1, b] its2.length (fun i v => its2[i]? = some v) St2) :
    Turns prog w A (.ref (s.heap.objs.size + 4)) its1.length (s.heap.objs.size + 5) (ZipI s s.heap.objs.size its1 its2 St1 St2) (ZipF s s.heap.objs.size its1 its2 its1.length) := by
  generalize hN : s.heap.objs.size = N at *
  refine ⟨fun i acc s' J => ⟨J.sz, J.lst⟩, fun i acc s' Q E hi J hq => ?_, fun acc s' Q E J hq => ?_⟩
  · obtain ⟨f0, f1, hf, hz⟩ := J.z
    obtain ⟨a1, a2, hTO⟩ := J.to
    refine zip_turn S D1 D2 hz J.ti hf hTO J.st1 J.st2 hi (by omega) fun x1 x2 R f0' f1' h' tk p1 p2 hf0 ez eTO s1n s2n hR eR kp => ?_
    have kL : ∀ (c : Addr) o, @LT.lt Nat _ (N + 4) c → s'.heap.get? c = some o → h'.get? c = some o := fun c o hc e => kp c o (ngt (show @LT.lt Nat _ (N + 4) (c) from hc)) (ngt (show @LT.lt Nat _ (N + 3) (c) by omega)) (ngt (show @LT.lt Nat _ (N) (c) by omega)) (ngt (show @LT.lt Nat _ (N + 1) (c) by omega)) e
    have kO : ∀ (c : Addr) o, @LT.lt Nat _ c N → s'.heap.get? c = some o → h'.get? c = some o := fun c o hc e => kp c o (nlt (show @LT.lt Nat _ (c) (N + 4) by omega)) (nlt (show @LT.lt Nat _ (c) (N + 3) by omega)) (nlt (show @LT.lt Nat _ (c) (N) by omega)) (nlt (show @LT.lt Nat _ (c) (N + 1) by omega)) e
    have a45 : N + 4 ≠ N + 5 := nlt (show @LT.lt Nat _ (N + 4) (N + 5) by omega)
    have a25 : N + 2 ≠ N + 5 := nlt (show @LT.lt Nat _ (N + 2) (N + 5) by omega)
    have a35 : N + 3 ≠ N + 5 := nlt (show @LT.lt Nat _ (N + 3) (N + 5) by omega)
    have a05 : N ≠ N + 5 := nlt (show @LT.lt Nat _ (N) (N + 5) by omega)
    have a15 : N + 1 ≠ N + 5 := nlt (show @LT.lt Nat _ (N + 1) (N + 5) by omega)
    have aa5 : a ≠ N + 5 := nlt (show @LT.lt Nat _ (a) (N + 5) by omega)
    have ab5 : b ≠ N + 5 := nlt (show @LT.lt Nat _ (b) (N + 5) by omega)
    obtain ⟨c0, eL⟩ := J.lst
    obtain ⟨ps, hps, hnd, hmade⟩ := J.ps
    refine hq (.ref R) ⟨h', s'.gens, s'.drawn, tk, s'.os⟩ ⟨c0, kL _ _ (show @LT.lt Nat _ (N + 4) (N + 5) by omega) eL⟩ fun h2 lL k2 s2 => ?_
    have hbig := J.big
    have lt_of : ∀ (j : Nat) (p : Addr), ps[j]? = some p → @LT.lt Nat _ p s'.heap.objs.size := fun j p e => by
      obtain ⟨_, x, y, _, _, t⟩ := hmade j p e
      exact Heap.lt_size t
    refine ⟨by rw [Array.size_push, J.sz], lL, ⟨f0', f1', .inr hf0, k2 _ _ a45 ez⟩, ?_, ?_, D1.frame _ _ _ s1n fun c hc o e => k2 c o ?_ e, D2.frame _ _ _ s2n fun c hc o e => k2 c o ?_ e, fun c o e => ?_, ?_, J.g, J.d, J.os, ps ++ [R], ?_, ?_, ?_⟩
    · exact k2 _ _ a25 (kp _ _ (nlt (show @LT.lt Nat _ (N + 2) (N + 4) by omega)) (nlt (show @LT.lt Nat _ (N + 2) (N + 3) by omega)) (ngt (show @LT.lt Nat _ (N) (N + 2) by omega)) (ngt (show @LT.lt Nat _ (N + 1) (N + 2) by omega)) J.ti)
    · obtain ⟨b1, b2, e⟩ := eTO
      exact ⟨b1, b2, k2 _ _ a35 e⟩
    · simp only [List.mem_cons, List.not_mem_nil, or_false] at hc
      rcases hc with e | e
      · rw [e]; exact a05
      · rw [e]; exact aa5
    · simp only [List.mem_cons, List.not_mem_nil, or_false] at hc
      rcases hc with e | e
      · rw [e]; exact a15
      · rw [e]; exact ab5
    · have hc : @LT.lt Nat _ c N := by rw [← hN]; exact Heap.lt_size e
      exact k2 c o (nlt (show @LT.lt Nat _ (c) (N + 5) by omega)) (kO c o hc (J.old c o e))
    · have e1 := Heap.lt_size eR
      have hR' : @LE.le Nat _ s'.heap.objs.size R := hR
      have e1' : @LT.lt Nat _ R h'.objs.size := e1
      show @LT.lt Nat _ (N + 5) h2.objs.size
      rw [s2]
      show @LT.lt Nat _ (N + 5) h'.objs.size
      omega
    · rw [Array.toList_push, hps, List.map_append, List.map_singleton]
    · rw [List.nodup_append]
      refine ⟨hnd, by simp, fun x hx y hy e => ?_⟩
      rw [List.mem_singleton] at hy
      obtain ⟨j, hj, e2⟩ := List.mem_iff_getElem.mp hx
      have := lt_of j x (by rw [List.getElem?_eq_getElem hj, e2])
      rw [e, hy] at this
      exact absurd this (Nat.not_lt.mpr hR)
    · intro j p e
      by_cases hj : j < ps.length
      · rw [List.getElem?_append_left hj] at e
        obtain ⟨q1, x, y, q2, q3, q4⟩ := hmade j p e
        exact ⟨q1, x, y, q2, q3, k2 _ _ (ngt q1) (kL _ _ (show @LT.lt Nat _ (N + 4) (p) by omega) q4)⟩
      · rw [List.getElem?_append_right (by omega)] at e
        have hl2 : ps.length = i := by
          have := congrArg List.length hps
          rw [List.length_map, Array.length_toList, J.sz] at this
          exact this.symm
        have hj0 : j - ps.length = 0 := by
          by_cases h0 : j - ps.length = 0
          · exact h0
          · rw [List.getElem?_eq_none (by simp; omega)] at e; cases e
        rw [hj0] at e
        cases e
        have : j = i := by omega
        subst this
        have hR' : @LE.le Nat _ s'.heap.objs.size R := hR
        exact ⟨by omega, x1, x2, p1, p2, k2 _ _ (ngt (show @LT.lt Nat _ (N + 5) (R) by omega)) eR⟩
  · obtain ⟨f0, f1, hf, hz⟩ := J.z
    refine zip_stop S D1 hz J.ti hf J.st1 fun h' kp => hq ⟨h', s'.gens, s'.drawn, s'.toks, s'.os⟩ ?_
    obtain ⟨c0, eL⟩ := J.lst
    obtain ⟨ps, hps, hnd, hmade⟩ := J.ps
    refine ⟨J.sz, ⟨c0, kp _ _ (ngt (show @LT.lt Nat _ (N + 4) (N + 5) by omega)) (ngt (show @LT.lt Nat _ (N) (N + 5) by omega)) eL⟩, fun c o e => ?_, J.g, J.d, J.os, ps, hps, hnd, fun j p e => ?_⟩
    · have hc : @LT.lt Nat _ c N := by rw [← hN]; exact Heap.lt_size e
      exact kp c o (nlt (show @LT.lt Nat _ (c) (N + 4) by omega)) (nlt (show @LT.lt Nat _ (c) (N) by omega)) (J.old c o e)
    · obtain ⟨q1, x, y, q2, q3, q4⟩ := hmade j p e
      exact ⟨q1, x, y, q2, q3, kp _ _ (ngt (show @LT.lt Nat _ (N + 4) (p) by omega)) (ngt (show @LT.lt Nat _ (N) (p) by omega)) q4⟩
end DL
set_option Elab.async false
set_option linter.all false
set_option maxRecDepth 100000
set_option maxHeartbeats 4000000
/-! list(zip(a, b)), the rule -/
namespace DL
open PySem PySem.Spec PyProof.Rows L2
/-- what it makes -/
def ZipMade (xs ys : List V) (H : Hp) (L : Addr) (ps : List Addr) (H' : Hp) : Prop := (∀ c o, H c = some o → H' c = some o) ∧ H L = none ∧ H' L = some (.lst (ps.map V.ref)) ∧ ps.length = xs.length ∧ ∀ (j : Nat) (p : Addr), ps[j]? = some p → ∃ x y, xs[j]? = some x ∧ ys[j]? = some y ∧ H p = none ∧ H' p = some (.tup [x, y])
theorem valsRefs : ∀ ps : List Addr, Vals (ps.map V.ref) (ps.map Value.ref)
  | [] => .nil
  | _ :: ps => .cons rfl (valsRefs ps)
theorem valsAt : ∀ {vs : List V} {us : List Value} {j : Nat} {u : Value}, Vals vs us → us[j]? = some u → ∃ v, vs[j]? = some v ∧ RelV v u
  | _, _, _, _, .nil, e => by simp at e
  | _, _, 0, _, .cons a _, e => by simp at e; subst e; exact ⟨_, rfl, a⟩
  | _, _, j + 1, u, .cons _ t, e => by
    obtain ⟨v, h1, h2⟩ := valsAt (j := j) (u := u) t (by simpa using e)
    exact ⟨v, by simpa using h1, h2⟩
def mk2 : List Addr → List V → List V → List (Addr × HO)
  | p :: ps, x :: xs, y :: ys => (p, .tup [x, y]) :: mk2 ps xs ys
  | _, _, _ => []
theorem mk2_fst : ∀ (ps : List Addr) (xs ys : List V), ps.length = xs.length → ys.length = xs.length → (mk2 ps xs ys).map (·.1) = ps
  | [], _, _, _, _ => by unfold mk2; rfl
  | p :: ps, x :: xs, y :: ys, h1, h2 => by
    unfold mk2
    rw [List.map_cons, mk2_fst ps xs ys (Nat.succ.inj h1) (Nat.succ.inj h2)]
  | _ :: _, [], _, h, _ => nomatch h
  | _ :: _, _ :: _, [], _, h => nomatch h
theorem mk2_mem : ∀ (ps : List Addr) (xs ys : List V) (q : Addr × HO), q ∈ mk2 ps xs ys → ∃ (j : Nat) (x y : V), ps[j]? = some q.1 ∧ xs[j]? = some x ∧ ys[j]? = some y ∧ q.2 = .tup [x, y]
  | p :: ps, x :: xs, y :: ys, q, h => by
    unfold mk2 at h
    rcases List.mem_cons.mp h with rfl | h
    · exact ⟨0, x, y, rfl, rfl, rfl, rfl⟩
    · obtain ⟨j, x', y', a, b, c, d⟩ := mk2_mem ps xs ys q h
      exact ⟨j + 1, x', y', by simpa using a, by simpa using b, by simpa using c, d⟩
  | [], _, _, q, h => by unfold mk2 at h; cases h
  | _ :: _, [], _, q, h => by unfold mk2 at h; cases h
  | _ :: _, _ :: _, [], q, h => by unfold mk2 at h; cases h
theorem mk2_at : ∀ (ps : List Addr) (xs ys : List V) (j : Nat) (p : Addr) (x y : V), ps[j]? = some p → xs[j]? = some x → ys[j]? = some y → (p, HO.tup [x, y]) ∈ mk2 ps xs ys
  | p :: ps, x :: xs, y :: ys, 0, p', x', y', a, b, c => by
    simp at a b c
    subst a b c
    unfold mk2
    exact List.mem_cons_self
  | p :: ps, x :: xs, y :: ys, j + 1, p', x', y', a, b, c => by
    unfold mk2
    exact List.mem_cons_of_mem _ (mk2_at ps xs ys j p' x' y' (by simpa using a) (by simpa using b) (by simpa using c))
  | [], _, _, _, _, _, _, a, _, _ => by simp at a
  | _ :: _, [], _, _, _, _, _, _, b, _ => by simp at b
  | _ :: _, _ :: _, [], _, _, _, _, _, _, c => by simp at c
theorem zip_laid {X : Cx} {pins : List (Addr × Obj)} {σ : List (Option V)} {H : Hp} {s s' : Shared} {xs ys : List V} {its1 its2 : List Value} {acc : Array Value} {Q : VK} (I : Inv X pins σ H s) (r1 : Vals xs its1) (r2 : Vals ys its2) (hxy : ys.length = xs.length) (hz : xs.length ≤ sizeLine) (F : ZipF s s.heap.objs.size its1 its2 its1.length acc s')
    (q : ∀ L ps H', ZipMade xs ys H L ps H' → Q (.ref L) H') : EP X pins σ Q (.ref (s.heap.objs.size + 5)) s' := by
  obtain ⟨hsz, ⟨c0, eL⟩, old, eg, ed, eo, ps, hps, hnd, hmade⟩ := F
  obtain ⟨h', g, d, tk, os⟩ := s'
  dsimp only at eg ed eo eL old hmade
  subst eg ed eo
  have hlen : ps.length = xs.length := by
    have := congrArg List.length hps
    rw [List.length_map, Array.length_toList, hsz] at this
    rw [← this]
    exact (Paired.length r1).symm
  have hfst := mk2_fst ps xs ys hlen hxy
  have hget : ∀ (j : Nat) (p : Addr), ps[j]? = some p → ∃ x y, xs[j]? = some x ∧ ys[j]? = some y ∧ ∀ H' : Hp, ObjOk X.prog X.w H' h' p (.tup [x, y]) := fun j p e => by
    obtain ⟨_, u1, u2, f1, f2, t⟩ := hmade j p e
    obtain ⟨x, e1, q1⟩ := valsAt r1 f1
    obtain ⟨y, e2, q2⟩ := valsAt r2 f2
    refine ⟨x, y, e1, e2, fun H' => ?_⟩
    unfold ObjOk
    exact ⟨by show 2 ≤ sizeLine; rw [sizeLine_eq]; omega, [u1, u2], .cons q1 (.cons q2 .nil), _, t, rfl, 0, rfl⟩
  have hl : ∀ p ∈ (s.heap.objs.size + 5, HO.lst (ps.map V.ref)) :: mk2 ps xs ys, s.heap.objs.size ≤ p.1 ∧ ∀ H' : Hp, ObjOk X.prog X.w H' h' p.1 p.2 := fun p hp => by
    rcases List.mem_cons.mp hp with rfl | hp
    · refine ⟨Nat.le_add_right _ _, fun H' => ?_⟩
      unfold ObjOk
      refine ⟨by rw [List.length_map, hlen]; exact hz, acc.toList, c0, ?_, eL⟩
      rw [hps]
      exact valsRefs ps
    · obtain ⟨j, x, y, e0, e1, e2, e3⟩ := mk2_mem ps xs ys p hp
      obtain ⟨x', y', f1, f2, ok⟩ := hget j p.1 e0
      rw [e1] at f1
      rw [e2] at f2
      cases f1
      cases f2
      obtain ⟨lt, _⟩ := hmade j p.1 e0
      refine ⟨show @LE.le Nat _ s.heap.objs.size p.1 by omega, fun H' => ?_⟩
      rw [e3]
      exact ok H'
  have hn : (((s.heap.objs.size + 5, HO.lst (ps.map V.ref)) :: mk2 ps xs ys).map (·.1)).Nodup := by
    rw [List.map_cons, hfst, List.nodup_cons]
    refine ⟨fun hm => ?_, hnd⟩
    obtain ⟨j, hj, e⟩ := List.mem_iff_getElem.mp hm
    obtain ⟨lt, _⟩ := hmade j ps[j] (List.getElem?_eq_getElem hj)
    rw [e] at lt
    exact absurd lt (Nat.lt_irrefl _)
  refine ⟨.ref (s.heap.objs.size + 5), updL H ((s.heap.objs.size + 5, HO.lst (ps.map V.ref)) :: mk2 ps xs ys), inv_many I old _ hl hn, rfl, q _ ps _ ⟨fun c o e => ?_, I.hok.fresh (Nat.le_add_right _ _), updL_at _ H (s.heap.objs.size + 5, .lst (ps.map V.ref)) List.mem_cons_self hn, hlen, fun j p e => ?_⟩⟩
  · rw [updL_off _ H c]
    · exact e
    · intro p hp e2
      have := (hl p hp).1
      rw [e2] at this
      rw [I.hok.fresh this] at e
      cases e
  · obtain ⟨x, y, e1, e2, _⟩ := hget j p e
    have hm : (p, HO.tup [x, y]) ∈ (s.heap.objs.size + 5, HO.lst (ps.map V.ref)) :: mk2 ps xs ys := List.mem_cons_of_mem _ (mk2_at ps xs ys j p x y e e1 e2)
    exact ⟨x, y, e1, e2, I.hok.fresh (hl _ hm).1, updL_at _ H _ hm hn⟩
end DL
set_option Elab.async false
set_option linter.all false
set_option maxRecDepth 100000
set_option maxHeartbeats 4000000
namespace DL
open PySem PySem.Spec PyProof.Rows L2
theorem list_zip_run {X : Cx} {pins : List (Addr × Obj)} {σ : List (Option V)} {H : Hp} {s : Shared} {a b : Addr} {xs ys : List V} {Q : VK} (hc : X.calm = true) (I : Inv X pins σ H s) (ha : SqA X.K H a xs) (hb : SqA X.K H b ys) (hxy : ys.length = xs.length)
    (q : ∀ L ps H', ZipMade xs ys H L ps H' → Q (.ref L) H') : wpAny (model X.prog X.w) X.A (call (.type "zip") [.ref a, .ref b]) (fun zv s1 => wpAny (model X.prog X.w) X.A (call (.type "list") [zv]) (EP X pins σ Q) X.xe s1) X.xe s := by
  have hd : X.A.in1.in1.in1.handled = none := I.ok.hd hc
  obtain ⟨its1, o1, Hh1, St1, rv1, B1, hh1, hz1⟩ := beg_of I ha X.A.in1.in1.in1 hd
  obtain ⟨its2, o2, Hh2, St2, rv2, B2, hh2, hz2⟩ := beg_of I hb X.A.in1.in1.in1 hd
  have hl : its1.length = its2.length := by
    rw [← Paired.length rv1, ← Paired.length rv2, hxy]
  have la : @LT.lt Nat _ a s.heap.objs.size := B1.lt _ hh1
  have lb : @LT.lt Nat _ b s.heap.objs.size := B2.lt _ hh2
  refine zip_begins2 B1.beg B2.beg hh1 hh2 fun h1 e1 e2 e3 e4 e5 e6 k1 => ?_
  have S : ZipSep2 (s.heap.objs.size + 4) (s.heap.objs.size + 2) (s.heap.objs.size + 3) s.heap.objs.size (s.heap.objs.size + 1) [s.heap.objs.size, a] [s.heap.objs.size + 1, b] :=
    zip_sep2 (fp1 := [a]) (fp2 := [b]) (fun c hc => by rw [List.mem_singleton] at hc; subst hc; exact la) (fun c hc => by rw [List.mem_singleton] at hc; subst hc; exact lb)
  have D1 := B1.dr s.heap.objs.size (Nat.ne_of_lt la)
  have D2 := B2.dr (s.heap.objs.size + 1) (Nat.ne_of_lt (Nat.lt_succ_of_lt lb))
  have c1 := B1.st _ h1 e4 (B1.beg.keeps _ _ hh1 k1)
  have c2 := B2.st _ h1 e5 (B2.beg.keeps _ _ hh2 k1)
  rw [List.size_toArray] at D1 D2
  have D1 : Draws X.prog X.w X.A.in1.in1.in1 s.heap.objs.size [s.heap.objs.size, a] its1.length (fun i v => its1[i]? = some v) (St1 s.heap.objs.size) := by simpa using D1
  have D2 : Draws X.prog X.w X.A.in1.in1.in1 (s.heap.objs.size + 1) [s.heap.objs.size + 1, b] its2.length (fun i v => its2[i]? = some v) (St2 (s.heap.objs.size + 1)) := by simpa using D2
  have W := zip_turns (A := X.A.in1.in1) (s := s) hl la lb S D1 D2
  rw [show s.heap.objs.size + 5 = (Shared.mk h1 s.gens s.drawn s.toks s.os).heap.objs.size from e6.symm] at W
  have lz : s.heap.objs.size + 4 < h1.objs.size := by rw [e6]; exact Nat.lt_succ_self _
  have hT : ∀ h', (∀ b o, h1.get? b = some o → h'.get? b = some o) → Shared.TypeIs ⟨h', s.gens, s.drawn, s.toks, s.os⟩ (.ref (s.heap.objs.size + 4)) "zip" := fun h' k => ⟨_, k _ _ e1, rfl⟩
  have hself : ∀ h', (∀ b o, h1.get? b = some o → h'.get? b = some o) → ∀ (Q E : Value → Shared → Prop), Q (.ref (s.heap.objs.size + 4)) ⟨h', s.gens, s.drawn, s.toks, s.os⟩ → wpAny (model X.prog X.w) X.A.in1.in1 (pyIter (.ref (s.heap.objs.size + 4))) Q E ⟨h', s.gens, s.drawn, s.toks, s.os⟩ := fun h' k Q E q => wpAny_pyIter_zip (k _ _ e1) q
  have n1 : typeLookup (.type "zip") "__len__" = pure none := rfl
  have n2 : typeLookup (.type "zip") "__length_hint__" = pure none := rfl
  have n3 : (Value.type "zip" == Value.type "list") = false := by decide
  have n4 : (Value.type "zip" == Value.type "tuple") = false := by decide
  have init : ∀ h', LstAt h' h1.objs.size #[] → (∀ b o, h1.get? b = some o → h'.get? b = some o) → h'.objs.size = h1.objs.size + 1 → ZipI s s.heap.objs.size its1 its2 (St1 s.heap.objs.size) (St2 (s.heap.objs.size + 1)) 0 #[] ⟨h', s.gens, s.drawn, s.toks, s.os⟩ := fun h' hL k sz => by
    refine ⟨rfl, ?_, ⟨.none, false, .inl rfl, k _ _ e1⟩, k _ _ e2, ⟨.none, .none, k _ _ e3⟩, D1.frame _ _ _ c1 fun c _ o e => k _ _ e, D2.frame _ _ _ c2 fun c _ o e => k _ _ e, fun c o e => k _ _ (k1 c o e), ?_, rfl, rfl, rfl, [], rfl, List.nodup_nil, fun j p e => by simp at e⟩
    · rw [← e6]; exact hL
    · show @LT.lt Nat _ (s.heap.objs.size + 5) h'.objs.size
      rw [sz, e6]
      exact Nat.lt_succ_self _
  have hlen : its1.length ≤ sizeLine := by rw [← Paired.length rv1]; exact hz1
  have fin : ∀ acc s', ZipF s s.heap.objs.size its1 its2 its1.length acc s' → EP X pins σ Q (.ref h1.objs.size) s' := fun acc s' F => by
    rw [e6]
    exact zip_laid I rv1 rv2 hxy hz1 F q
  exact call_list_I (s := ⟨h1, s.gens, s.drawn, s.toks, s.os⟩) (T := "zip") n1 n2 n3 n4 W hT lz hself init fin hlen
/-- list(zip(e1, e2)) -/
def tZipL (K : PySem.W.Frag) (t : TA) : TE := fun σ H Q => t σ H fun vs H1 => ∃ a b xs ys, vs = [.ref a, .ref b] ∧ SqA K H1 a xs ∧ SqA K H1 b ys ∧ ys.length = xs.length ∧ ∀ L ps H', ZipMade xs ys H1 L ps H' → Q (.ref L) H'
theorem pe_listZip {X : Cx} {e1 e2 : Expr} {t : TA} {p p2 pos pos2 : Pos} (hc : X.calm = true) (hg : Gl X "list") (hm : X.mg "list" = none) (hg2 : Gl X "zip") (hm2 : X.mg "zip" = none) (he : PA X [e1, e2] t)
    (na : starEach [.Call (.Name "zip" p2) [e1, e2] [] pos2] X.env = (false, eval (.Call (.Name "zip" p2) [e1, e2] [] pos2) X.env) :: starEach [] X.env := by rfl) (hs : starEach [e1, e2] X.env = (false, eval e1 X.env) :: starEach [e2] X.env := by rfl) (hpl : (backTo pos2 (starEach [e2] X.env)).any (·.1) = false := by rfl) :
    PE X (.Call (.Name "list" p) [.Call (.Name "zip" p2) [e1, e2] [] pos2] [] pos) (tZipL X.K t) := by
  refine ⟨fun pins s σ H Q I h => ?_⟩
  refine Call_ (ld_blt I hg hm boot_list (PyProof.Rows.callWith_type1 (args_cons ?_ na) na rfl) (by decide) (by decide)) rfl
  refine Call_ (ld_blt I hg2 hm2 boot_zip (PyProof.Rows.callWith_type1 ?_ hs hpl) (by decide) (by decide)) rfl
  refine thn (he.run pos2 pins s σ H _ I h) fun us s1 ⟨vs, H1, I1, r, a, b, xs, ys, ev, ha, hb, hxy, q⟩ => ?_
  subst ev
  cases r with
  | cons r1 rr =>
    cases rr with
    | cons r2 rr =>
      cases rr
      cases r1
      cases r2
      have z := list_zip_run (Q := Q) hc I1 ha hb hxy q
      refine thn z ?_
      intro zv s2 hz
      exact args_nil (Q := fun vs s₂ => wpAny (model X.prog X.w) X.A (call (.type "list") (zv :: vs)) (EP X pins σ Q) X.xe s₂) hz
end DL
set_option Elab.async false
set_option linter.all false
set_option maxRecDepth 100000
set_option maxHeartbeats 4000000
/-! list(zip(a, b)), of data -/
namespace DL
open PySem PySem.Spec PyProof.Rows L2
def pair2 (p : D × D) : D := .tup [p.1, p.2]
/-- lists and tuples of one length -/
def wZipL (t : TAd) : TEd := fun env G Q Ex => t env G (fun ds G1 => ∃ x y xs ys, ds = [x, y] ∧ seqD G1 x = some xs ∧ seqD G1 y = some ys ∧ ys.length = xs.length ∧ xs.length ≤ sizeLine ∧ Q (.lst ((xs.zip ys).map pair2)) G1) Ex
section
variable {T : Tb} {X : Cx} {W : WX} {e1 e2 : Expr} {u : TAd} {p p2 pos pos2 : Pos}
theorem sqA_at {G : GH} {H : Hp} {x : D} {v : V} {xs : List D} (rh : RH T G H) (r : RV T G H x v) (h : seqD G x = some xs) : ∃ a vs, v = .ref a ∧ SqA T.K H a vs ∧ RVs T G H xs vs := by
  cases r with
  | tup hx l r => cases h; exact ⟨_, _, rfl, .inr hx.sq, r⟩
  | lst g hx l r => cases h; exact ⟨_, _, rfl, .inl (SqL.of hx), r⟩
  | frl h1 l r => cases h; exact ⟨_, _, rfl, .inl h1.sq, r⟩
  | ref a =>
    have g := lstAt_some (show lstAt (G a) = some xs from h)
    obtain ⟨vs, hx, _, r⟩ := rh a _ g
    exact ⟨_, _, rfl, .inl (SqL.of hx), r⟩
  | _ => cases h
theorem zip_rvs {T : Tb} {G : GH} {H H' : Hp} {L : Addr} (hG : ∀ b, H b = none → G b = none) (kp : ∀ c o, H c = some o → H' c = some o) : ∀ (ds es : List D) (vs us : List V) (ps : List Addr), RVs T G H ds vs → RVs T G H es us → us.length = vs.length → ps.length = vs.length →
    (∀ (j : Nat) (p : Addr), ps[j]? = some p → ∃ x y, vs[j]? = some x ∧ us[j]? = some y ∧ H p = none ∧ H' p = some (.tup [x, y])) → RVs T G H' ((ds.zip es).map pair2) (ps.map V.ref)
  | _, _, _, _, [], .nil, _, _, _, _ => by simp; exact .nil
  | d :: ds, e :: es, v :: vs, u :: us, q :: ps, .cons r1 t1, .cons r2 t2, h1, h2, hp => by
    obtain ⟨x, y, e1, e2, n, hq⟩ := hp 0 q rfl
    cases e1
    cases e2
    have K : Keep G H G H' := fun a o g h => ⟨kp a o h, g⟩
    refine .cons (.tup (xs := [v, u]) ⟨hG q n, .inl hq⟩ (by show 2 ≤ sizeLine; rw [sizeLine_eq]; omega) (.cons (r1.keep K) (.cons (r2.keep K) .nil))) (zip_rvs (L := L) hG kp ds es vs us ps t1 t2 (Nat.succ.inj h1) (Nat.succ.inj h2) fun j p e => ?_)
    obtain ⟨x, y, a, b, c, d⟩ := hp (j + 1) p (by simpa using e)
    exact ⟨x, y, by simpa using a, by simpa using b, c, d⟩
  | [], _, _, _, _ :: _, .nil, _, _, h, _ => nomatch h
  | _ :: _, _, _ :: _, [], _, .cons _ _, .nil, h, _, _ => nomatch h
  | _ :: _, _, _ :: _, _, [], .cons _ _, _, _, h, _ => nomatch h
theorem q_listZip (hc : X.calm = true) (hK : X.K = T.K) (hm : X.mg "list" = none) (hm2 : X.mg "zip" = none) (ha : QA T X W [e1, e2] u) (hg : Gl X "list" := by rfl) (hg2 : Gl X "zip" := by rfl)
    (na : starEach [.Call (.Name "zip" p2) [e1, e2] [] pos2] X.env = (false, eval (.Call (.Name "zip" p2) [e1, e2] [] pos2) X.env) :: starEach [] X.env := by rfl) (hs : starEach [e1, e2] X.env = (false, eval e1 X.env) :: starEach [e2] X.env := by rfl) (hpl : (backTo pos2 (starEach [e2] X.env)).any (·.1) = false := by rfl) :
    QE T X W (.Call (.Name "list" p) [.Call (.Name "zip" p2) [e1, e2] [] pos2] [] pos) (wZipL u) :=
  QE.of (pe_listZip hc hg hm hg2 hm2 ha.pa na hs hpl) fun env G σ H Q Ex Qv rs rh ex q k => intoA rs rh ex q fun ds vs G1 H1 rds rh1 k1 ⟨x, y, xs, ys, e, hx, hy, hl, hz, q1⟩ => by
    subst e
    cases rds with
    | cons rx rr =>
      cases rr with
      | cons ry rr =>
        cases rr
        obtain ⟨a, vx, rfl, sx, rx'⟩ := sqA_at rh1 rx hx
        obtain ⟨b, vy, rfl, sy, ry'⟩ := sqA_at rh1 ry hy
        have l1 := rx'.length
        have l2 := ry'.length
        refine ⟨a, b, vx, vy, rfl, by rw [hK]; exact sx, by rw [hK]; exact sy, by omega, fun L ps H' ⟨kp, nL, eL, lp, hp⟩ => ?_⟩
        have K : Keep G1 H1 G1 H' := fun c o g h => ⟨kp c o h, g⟩
        have zl : ((xs.zip ys).map pair2).length ≤ sizeLine := by rw [List.length_map, List.length_zip]; omega
        refine k _ _ G1 H' (.lst (rh1.fresh nL) eL zl (zip_rvs (L := L) (fun b n => rh1.fresh n) kp xs ys vx vy ps rx' ry' (by omega) (by omega) hp)) (fun c o g => ?_) (k1.trans K) q1
        obtain ⟨uu, hu, _⟩ := (rh1 c o g).there
        exact (rh1 c o g).keep K ((kp c uu hu).trans hu.symm)
end
end DL
set_option Elab.async false
set_option linter.all false
set_option maxRecDepth 100000
set_option maxHeartbeats 4000000
/-! for x, y in zip(a, b); < of tuples of integers -/
namespace DL
open PySem PySem.Spec PyProof.Rows L2
theorem zipD_get {ds es : List D} {i : Nat} {d : D} (h : ((ds.zip es).map pair2)[i]? = some d) : ∃ x y, ds[i]? = some x ∧ es[i]? = some y ∧ d = .tup [x, y] := by
  rw [List.getElem?_map] at h
  obtain ⟨p, hp, e⟩ := Option.map_eq_some_iff.mp h
  have hi := (List.getElem?_eq_some_iff.mp hp).1
  rw [List.length_zip] at hi
  have h1 : i < ds.length := by omega
  have h2 : i < es.length := by omega
  have e2 : (ds.zip es)[i]? = some (ds[i], es[i]) := by
    rw [List.getElem?_eq_getElem (by rw [List.length_zip]; omega), List.getElem_zip]
  rw [e2] at hp
  cases hp
  exact ⟨_, _, List.getElem?_eq_getElem h1, List.getElem?_eq_getElem h2, e.symm⟩
section
variable {T : Tb} {X : Cx} {W : WX} {e1 e2 a b : Expr} {ta tb : TEd} {u : TAd} {p pos tpos : Pos} {elts : List Expr} {kk : Nat}
theorem zip_yld {G : GH} {H H' : Hp} {ds es : List D} {vs us : List V} {i : Nat} {d : D} {v x y : V} {R : Addr} (rh : RH T G H) (rd : RVs T G H ds vs) (re : RVs T G H es us) (hd : ((ds.zip es).map pair2)[i]? = some d) (ev : v = .ref R) (n : H R = none) (eH : H' = upd H R (.tup [x, y])) (ex : vs[i]? = some x) (ey : us[i]? = some y) :
    RV T G H' d v ∧ RH T G H' ∧ Keep G H G H' := by
  subst ev eH
  obtain ⟨dx, dy, f1, f2, rfl⟩ := zipD_get hd
  obtain ⟨v1, g1, r1⟩ := rd.get f1
  obtain ⟨v2, g2, r2⟩ := re.get f2
  rw [ex] at g1
  rw [ey] at g2
  cases g1
  cases g2
  exact ⟨.tup (xs := [x, y]) ⟨rh.fresh n, .inl upd_same⟩ (by show 2 ≤ sizeLine; rw [sizeLine_eq]; omega) (.cons (r1.keep (Keep.new n)) (.cons (r2.keep (Keep.new n)) .nil)), rh.new n, Keep.new n⟩
theorem zipD_len (ds es : List D) : ((ds.zip es).map pair2).length = min ds.length es.length := by rw [List.length_map, List.length_zip]
theorem src_zipL {G0 : GH} {H0 : Hp} {p q : Addr} {ds es : List D} (l : ds.length ≤ sizeLine) (h : ∀ G H, Keep G0 H0 G H → ∃ vs us, SqL T.K H p vs ∧ RVs T G H ds vs ∧ SqL T.K H q us ∧ RVs T G H es us) : SrcOk T G0 H0 (Itz T.K p q) ((ds.zip es).map pair2) always := by
  refine ⟨by rw [zipD_len]; omega, fun G H k rh _ i hi => ?_, fun G H k rh _ i d v H' hd ⟨R, x, y, e1, e2, e3, e4, e5⟩ => ?_, fun G H k rh _ i hi => ?_⟩
  · obtain ⟨vs, us, s1, r1, s2, r2⟩ := h G H k
    rw [zipD_len] at hi
    have l1 := r1.length
    have l2 := r2.length
    exact ⟨vs, us, _, _, s1, s2, List.getElem?_eq_getElem (show i < vs.length by omega), List.getElem?_eq_getElem (show i < us.length by omega)⟩
  · obtain ⟨vs, us, s1, r1, s2, r2⟩ := h G H k
    exact zip_yld rh r1 r2 hd e1 e2 e3 (e4 _ s1) (e5 _ s2)
  · obtain ⟨vs, us, s1, r1, s2, r2⟩ := h G H k
    rw [zipD_len] at hi
    have l1 := r1.length
    have l2 := r2.length
    exact ⟨vs, us, s1, s2, by omega⟩
theorem src_zipT {G0 : GH} {H0 : Hp} {p q : Addr} {ds es : List D} (l : ds.length ≤ sizeLine) (h : ∀ G H, Keep G0 H0 G H → ∃ vs us, SqT T.K H p vs ∧ RVs T G H ds vs ∧ SqT T.K H q us ∧ RVs T G H es us) : SrcOk T G0 H0 (RZ.ItzT T.K p q) ((ds.zip es).map pair2) always := by
  refine ⟨by rw [zipD_len]; omega, fun G H k rh _ i hi => ?_, fun G H k rh _ i d v H' hd ⟨R, x, y, e1, e2, e3, e4, e5⟩ => ?_, fun G H k rh _ i hi => ?_⟩
  · obtain ⟨vs, us, s1, r1, s2, r2⟩ := h G H k
    rw [zipD_len] at hi
    have l1 := r1.length
    have l2 := r2.length
    exact ⟨vs, us, _, _, s1, s2, List.getElem?_eq_getElem (show i < vs.length by omega), List.getElem?_eq_getElem (show i < us.length by omega)⟩
  · obtain ⟨vs, us, s1, r1, s2, r2⟩ := h G H k
    exact zip_yld rh r1 r2 hd e1 e2 e3 (e4 _ s1) (e5 _ s2)
  · obtain ⟨vs, us, s1, r1, s2, r2⟩ := h G H k
    rw [zipD_len] at hi
    have l1 := r1.length
    have l2 := r2.length
    exact ⟨vs, us, s1, s2, by omega⟩
/-- two lists that are not changed, or two tuples -/
def wiZip (t : TAd) : TId := fun env G Q Ex => t env G (fun ds G1 => ∃ xs ys, (ds = [.lst xs, .lst ys] ∨ ds = [.tup xs, .tup ys]) ∧ Q ((xs.zip ys).map pair2) always G1) Ex
theorem qi_zip (hK : X.K = T.K) (hm : X.mg "zip" = none) (ha : QA T X W [e1, e2] u) (hg : Gl X "zip" := by rfl) (hs : starEach [e1, e2] X.env = (false, eval e1 X.env) :: starEach [e2] X.env := by rfl) (hpl : (backTo pos (starEach [e2] X.env)).any (·.1) = false := by rfl) :
    QI T X W (.Tuple elts kk tpos) (.Call (.Name "zip" p) [e1, e2] [] pos) (wiZip u) :=
  ⟨PI.imp (RZ.pi_zipA hg hm ha.pa hs hpl) fun σ H R ⟨env, G, Q, Ex, rs, rh, ex, q, k⟩ => intoA rs rh ex q fun ds vs G1 H1 rds rh1 k1 ⟨xs, ys, ed, q1⟩ => by
    rw [hK]
    rcases ed with rfl | rfl
    · rcases rds with _ | ⟨rx, _ | ⟨ry, _ | ⟨_, _⟩⟩⟩
      cases rx with
      | lst g hx l r =>
        cases ry with
        | lst g2 hy l2 r2 => exact ⟨_, _, _, _, rfl, .inl ⟨SqL.of hx, SqL.of hy, k _ _ always _ _ rh1 k1 (src_zipL l fun G H kk => ⟨_, _, SqL.of (kk _ _ g hx).1, r.keep kk, SqL.of (kk _ _ g2 hy).1, r2.keep kk⟩) q1⟩⟩
    · rcases rds with _ | ⟨rx, _ | ⟨ry, _ | ⟨_, _⟩⟩⟩
      cases rx with
      | tup hx l r =>
        cases ry with
        | tup hy l2 r2 => exact ⟨_, _, _, _, rfl, .inr ⟨hx.sq, hy.sq, k _ _ always _ _ rh1 k1 (src_zipT l fun G H kk => ⟨_, _, (kk.fzT hx).sq, r.keep kk, (kk.fzT hy).sq, r2.keep kk⟩) q1⟩⟩⟩
/-- < of tuples of integers -/
def ltTO : O2 := fun x y G Q => ∃ ns ms : List Int, x = .tup (ns.map D.int) ∧ y = .tup (ms.map D.int) ∧ Q (.bl (HT.lexLt ns ms)) G
theorem ints_rvT {G : GH} {H : Hp} : ∀ {ns : List Int} {vs : List V}, RVs T G H (ns.map D.int) vs → vs = ns.map V.int
  | [], _, .nil => rfl
  | n :: ns, _, .cons r t => by
    cases r
    rw [List.map_cons, ints_rvT t]
theorem oi_ltT {K : PySem.W.Frag} (hK : K = T.K) : OpI T (rLtT K) ltTO := by
  intro G H x y v w Q Qv rh rx ry ⟨ns, ms, e1, e2, q⟩ k
  subst hK e1 e2
  cases rx with
  | tup hx l r =>
    cases ry with
    | tup hy l2 r2 =>
      have e1 := ints_rvT r
      have e2 := ints_rvT r2
      subst e1 e2
      exact ⟨_, _, ns, ms, rfl, rfl, hx.sq, hy.sq, k _ _ G H (.bl _) rh (Keep.refl _ _) q⟩
theorem q_ltT (hK : X.K = T.K) (hu : X.A.units + 64 < cLine) (ha : QE T X W a ta) (hb : QE T X W b tb) (hm : behindInMarks .Lt b = false := by first | exact nomark _ | rfl) : QE T X W (.Compare a [.Lt] [b] pos) (wOp ltTO ta tb) := q_cmp (op_ltT (by omega)) (oi_ltT hK) ha hb hm
end
end DL
set_option Elab.async false
set_option linter.all false
set_option maxRecDepth 100000
set_option maxHeartbeats 4000000
/-! sorted(x), x anything that can be collected -/
namespace DL
open PySem PySem.Spec PyProof.Rows L2
theorem sorted_any {prog : Program} {w : World} {A : Around} {E : Value → Shared → Prop} {s : Shared} {it : Value} {β : Type} {bs : List β} {enc : β → PyData} {Rel : Value → β → Prop} {Q : Value → Shared → Prop}
    (hcol : ∀ (K : List Value → Shared → Prop) (E' : Value → Shared → Prop), (∀ (items : List Value) (h' : Heap) (tk : Nat), (∀ b o, s.heap.get? b = some o → h'.get? b = some o) → W.EachIs Rel items bs → W.EachIs (fun v b => ∃ as, Reads s.heap v (enc b) as) items bs → K items ⟨h', s.gens, s.drawn, tk, s.os⟩) → wpAny (model prog w) A.in1 (collect it) K E' s)
    (h1 : W.AllAlike (bs.map enc)) (h2 : W.Sortable (bs.map enc)) (hl : bs.length ≤ sizeLine) (hd : ∀ b ∈ bs, A.units + 2 + (enc b).depth < cLine)
    (hQ : ∀ (out : List Value) (h' : Heap) (tk : Nat) (L : Addr), (∀ b o, s.heap.get? b = some o → h'.get? b = some o) → s.heap.get? L = none → (∃ c, h'.get? L = some (seqObj "list" out.toArray c)) → out.length = bs.length → W.EachIs Rel out (bs.mergeSort (W.dataLe false enc)) → Q (.ref L) ⟨h', s.gens, s.drawn, tk, s.os⟩) :
    wpAny (model prog w) A (call (.builtin "sorted") [it]) Q E s := by
  refine Calls.call_function_entry kind_sorted plain_sorted entry_sorted (args_sorted1 it) ?_
  refine id (wpAny_bind (wpAny_pure (wpAny_bind (hcol _ _ fun items h' tk kp e1 e2 => ?_))))
  have hlen : items.length = bs.length := e1.length
  refine wpAny_bind (wpAny_newList ?_ (by rw [hlen]; exact hl))
  refine wpAny_bind (wpAny_holding ?_)
  refine wpAny_call_entry slot_list_sort ⟨_, Heap.get?_push_size _ rfl, rfl⟩ entry_list_sort ?_ (args_list_sort _)
  have keep1 : ∀ b o, s.heap.get? b = some o → (h'.push { cls := .type "list", data := .seq items.toArray }).get? b = some o := fun b o e => Heap.get?_push_of_some _ (kp b o e)
  have low : ∀ b o, s.heap.get? b = some o → b ≠ h'.objs.size := fun b o e => Nat.ne_of_lt (Heap.lt_size (kp b o e))
  have keep2 : ∀ b o, s.heap.get? b = some o → (W.sortingHeap (h'.push { cls := .type "list", data := .seq items.toArray }) h'.objs.size items).get? b = some o := fun b o e => by
    unfold W.sortingHeap
    exact Heap.get?_push_of_some _ (Heap.get?_push_of_some _ ((Heap.get?_update_other _ _ (Ne.symm (low b o e))).trans (keep1 b o e)))
  have e3 : W.EachIs (fun v b => ∃ as, Reads (W.sortingHeap (h'.push { cls := .type "list", data := .seq items.toArray }) h'.objs.size items) v (enc b) as) items bs := W.EachIs.mono (fun v b ⟨as, r⟩ => ⟨as, PyProof.Rows.Reads.keeps keep2 r⟩) e2
  refine W.list_sort_vals (n := 0) (κ := W.dataKind (W.sortingHeap (h'.push { cls := .type "list", data := .seq items.toArray }) h'.objs.size items) (bs.map enc)) (Heap.get?_push_size _ rfl) (W.SortsAt.data (W.each_map enc e3) h1 h2 (W.bound_map fun b hb => ?_)) (by rw [hlen]; exact hl) ?_
  · have := hd b hb
    exact this
  · refine ⟨.none, rfl, id (wpAny_pure ?_)⟩
    have ho := W.sortVals_data (R := Rel) (rev := false) e1 e3 h1
    have hol := ho.length
    rw [List.length_mergeSort] at hol
    refine ⟨_, rfl, hQ _ _ tk h'.objs.size (fun b o e => (sortedHeap_old (low b o e) (Nat.lt_of_lt_of_le (Heap.lt_size (kp b o e)) (by rw [Heap.size_push]; exact Nat.le_succ _))).trans (keep1 b o e)) ?_ (sortedHeap_at (Heap.get?_push_size _ rfl)) hol ho⟩
    cases e : s.heap.get? h'.objs.size with
    | none => rfl
    | some o => exact absurd rfl (low _ o e)
/-- sorted(t), t a tuple of data that can be compared -/
abbrev rSortT (T : Tb) : List V → Hp → VK → Prop := fun xs H Q => ∃ p ys G ds, xs = [.ref p] ∧ SqT T.K H p ys ∧ RVs T G H ds ys ∧ SortOk ds ∧ ds.length ≤ sizeLine ∧ ∀ l zs, H l = none → RVs T G H (sortedD ds) zs → Q (.ref l) (upd H l (.lst zs))
theorem call_sortT {T : Tb} {X : Cx} (hK : X.K = T.K) (hu : X.A.units + 64 < cLine) : CallR X (.builtin "sorted") (rSortT T) := by
  intro pins s σ H xs us Q I r h
  obtain ⟨p, ys, G, ds, rfl, hs, rds, ⟨h1, h2, h3⟩, hL, q⟩ := h
  obtain ⟨u, rfl, ru⟩ := vals1 r
  obtain rfl : u = Value.ref p := ru
  obtain ⟨its, rv, ⟨o, ho, hc, n, hd⟩, hz⟩ := I.tuple (by rw [hK]; exact hs)
  obtain ⟨e1, e2⟩ := each_vals hK I rds rv fun d m => (h1 d m).1
  refine sorted_any (bs := ds) (enc := pyR) (Rel := fun u d => ∃ v, RV T G H d v ∧ RelV v u) (fun K E' hk => wpAny_collect_seq p (.inr rfl) ho hc hd (fun h' kp => hk its h' s.toks kp e1 e2) (by rw [List.size_toArray, ← Paired.length rv]; exact hz)) h2 h3 hL (fun d m => by have := (h1 d m).2; omega) fun out h' tk L kp nL ⟨c, hLo⟩ hlen eo => ?_
  obtain ⟨zs, r1, r2⟩ := vals_each eo
  have fr : H L = none := I.hok.gone nL
  refine ⟨.ref _, upd H L (.lst zs), I.laidN (t' := tk) kp nL fr ?_, rfl, q _ zs fr r1⟩
  unfold ObjOk
  refine ⟨?_, out, c, r2, hLo⟩
  have := r1.length
  rw [← this, List.length_mergeSort]
  exact hL
end DL
set_option Elab.async false
set_option linter.all false
set_option maxRecDepth 100000
set_option maxHeartbeats 4000000
/-! dicts with tuples as keys -/
namespace DL
open PySem PySem.Spec PyProof.Rows L2
/-! ### {}, d[k] = v, d[k] -/
def keyT : D → Option (List Key)
  | .tup (.int i :: ds) => (.int i :: ds).mapM keyD
  | _ => none
def setAtT {α : Type} : List (List Key) → List α → List Key → α → List α
  | g :: ks, x :: xs, k, y => (if g = k then y else x) :: setAtT ks xs k y
  | _, xs, _, _ => xs
def memT (ks : List (List Key)) (k : List Key) : Bool := ks.any fun g => decide (g = k)
def putKT (ks : List (List Key)) (k : List Key) : List (List Key) := if memT ks k = true then ks else ks ++ [k]
def putVT {α : Type} (ks : List (List Key)) (xs : List α) (k : List Key) (y : α) : List α := if memT ks k = true then setAtT ks xs k y else xs ++ [y]
def lookT : List (List Key) → List D → List Key → Option D
  | g :: ks, x :: xs, k => if g = k then some x else lookT ks xs k
  | _, _, _ => none
theorem setAtT_len {α : Type} : ∀ (ks : List (List Key)) (xs : List α) (k : List Key) (y : α), (setAtT ks xs k y).length = xs.length
  | [], _, _, _ => by unfold setAtT; rfl
  | _ :: _, [], _, _ => by unfold setAtT; rfl
  | g :: ks, x :: xs, k, y => by unfold setAtT; rw [List.length_cons, List.length_cons, setAtT_len ks xs k y]
theorem putKT_len {ks : List (List Key)} {k : List Key} : (putKT ks k).length = if memT ks k = true then ks.length else ks.length + 1 := by
  unfold putKT
  split <;> simp
theorem putT_len {α : Type} {ks : List (List Key)} {xs : List α} {k : List Key} {y : α} (h : ks.length = xs.length) : (putKT ks k).length = (putVT ks xs k y).length := by
  unfold putKT putVT
  split
  · rw [setAtT_len, h]
  · simp [h]
theorem setAtT_map : ∀ (ks : List (List Key)) (xs : List V) (k : List Key) (v : V), ks.length = xs.length → (ks.zip xs).map (fun kv => if kv.1 = k then (kv.1, v) else kv) = ks.zip (setAtT ks xs k v)
  | [], _, _, _, _ => by unfold setAtT; rfl
  | _ :: _, [], _, _, h => nomatch h
  | g :: ks, x :: xs, k, v, h => by
    unfold setAtT
    rw [List.zip_cons_cons, List.map_cons, List.zip_cons_cons, setAtT_map ks xs k v (Nat.succ.inj h)]
    by_cases e : g = k
    · rw [if_pos e, if_pos e]
    · rw [if_neg e, if_neg e]
theorem any_keyT : ∀ {ks : List (List Key)} {xs : List V} {k : List Key}, ks.length = xs.length → ((ks.zip xs).any fun kv => decide (kv.1 = k)) = memT ks k
  | [], _, _, _ => rfl
  | _ :: _, [], _, h => nomatch h
  | g :: ks, x :: xs, k, h => by
    rw [List.zip_cons_cons, List.any_cons, any_keyT (Nat.succ.inj h)]
    rfl
theorem putT_zip {ks : List (List Key)} {xs : List V} {k : List Key} {v : V} (h : ks.length = xs.length) : putK (ks.zip xs) k v = (putKT ks k).zip (putVT ks xs k v) := by
  unfold putK putKT putVT
  rw [any_keyT h]
  cases e : memT ks k with
  | true =>
    rw [if_pos rfl, if_pos rfl, if_pos rfl]
    exact setAtT_map ks xs k v h
  | false =>
    rw [if_neg Bool.false_ne_true, if_neg Bool.false_ne_true, if_neg Bool.false_ne_true, List.zip_append h]
    rfl
section
variable {T : Tb} {X : Cx} {W : WX} {G : GH} {H : Hp}
theorem RVs.setAtT {d : D} {v : V} (r : RV T G H d v) : ∀ {ks : List (List Key)} {ds : List D} {vs : List V} (k : List Key), RVs T G H ds vs → RVs T G H (DL.setAtT ks ds k d) (DL.setAtT ks vs k v)
  | [], _, _, _, h => by unfold DL.setAtT; exact h
  | _ :: _, _, _, _, .nil => by unfold DL.setAtT; exact .nil
  | g :: ks, _, _, k, .cons a b => by
    unfold DL.setAtT
    refine .cons ?_ (RVs.setAtT r k b)
    by_cases e : g = k
    · rw [if_pos e, if_pos e]; exact r
    · rw [if_neg e, if_neg e]; exact a
theorem RVs.putVT {d : D} {v : V} {ks : List (List Key)} {ds : List D} {vs : List V} (r : RV T G H d v) (k : List Key) (h : RVs T G H ds vs) : RVs T G H (DL.putVT ks ds k d) (DL.putVT ks vs k v) := by
  unfold DL.putVT
  split
  · exact h.setAtT r k
  · exact h.append (.cons r .nil)
theorem keys_map : ∀ {ds : List D} {vs : List V} {k : List Key}, RVs T G H ds vs → ds.mapM keyD = some k → vs = k.map kV
  | [], _, _, .nil, h => by cases h; rfl
  | d :: ds, _, k, .cons r t, h => by
    rw [List.mapM_cons] at h
    cases e1 : keyD d with
    | none => rw [e1] at h; cases h
    | some c =>
      rw [e1] at h
      cases e2 : ds.mapM keyD with
      | none => rw [e2] at h; cases h
      | some cs =>
        rw [e2] at h
        cases h
        rw [key_val r e1, keys_map t e2]
        rfl
theorem keyT_at {y : D} {v : V} {k : List Key} (r : RV T G H y v) (h : keyT y = some k) : ∃ b, v = .ref b ∧ H b = some (.tup (k.map kV)) := by
  cases r with
  | tup hx l r =>
    cases r with
    | nil => cases h
    | cons r0 r =>
      cases r0 with
      | int i =>
        have e := keys_map (.cons (.int i) r) h
        rcases hx.2 with hx | ⟨ni, _⟩
        · exact ⟨_, rfl, by rw [← e]; exact hx⟩
        · exact absurd rfl (ni i _)
      | _ => cases h
  | _ => cases h
theorem lookT_val {k : List Key} {d : D} : ∀ {ks : List (List Key)} {ds : List D} {vs : List V}, RVs T G H ds vs → lookT ks ds k = some d → ∃ v, valV (ks.zip vs) k = some v ∧ RV T G H d v
  | [], _, _, _, h => by unfold lookT at h; cases h
  | _ :: _, _, _, .nil, h => by unfold lookT at h; cases h
  | g :: ks, _, _, .cons a b, h => by
    unfold lookT at h
    unfold valV
    rw [List.zip_cons_cons, List.find?_cons]
    by_cases e : g = k
    · rw [if_pos e] at h
      cases h
      rw [decide_eq_true e]
      exact ⟨_, rfl, a⟩
    · rw [if_neg e] at h
      rw [decide_eq_false e]
      exact lookT_val b h
variable {e o i : Expr} {te to ti : TEd} {pos pos' p : Pos}
def wDNewT : TEd := fun _ G Q _ => ∀ p, G p = none → Q (.ref p) (gset G p (.dct [] []))
theorem q_dnewT : QE T X W (.Dict [] [] pos) wDNewT := QE.of pe_dnewT fun env G σ H Q Ex Qv rs rh ex q k => fun p np =>
  k (.ref p) _ (gset G p (.dct [] [])) _ (.ref p) (rh.newG (d := .dct [] []) np ⟨[], upd_same, rfl, .nil⟩) (Keep.newG np) (q p (rh.fresh np))
def dputTO (x y z : D) (G : GH) (Q : GH → Prop) : Prop := ∃ a ks vs k, x = .ref a ∧ G a = some (.dct ks vs) ∧ keyT y = some k ∧ ks.length < sizeLine ∧ Q (gset G a (.dct (putKT ks k) (putVT ks vs k z)))
def wDPutT (te to ti : TEd) : TSd := fun De env G => te env G (fun z G1 => to env G1 (fun x G2 => ti env G2 (fun y G3 => dputTO x y z G3 fun G4 => De.nx env G4) (fun c ds G' => De.ex c ds env G')) (fun c ds G' => De.ex c ds env G')) (fun c ds G' => De.ex c ds env G')
theorem q_dputT (hu : X.A.units + 64 < cLine) (he : QE T X W e te) (ho : QE T X W o to) (hi : QE T X W i ti) (hs : swapsWith e (some (.Subscript o i pos')) pos.line X.env = pure false := by rfl) : QS T X W (.Assign [.Subscript o i pos'] e pos) (wDPutT te to ti) :=
  QS.of (ps_dput (by omega) ho.pe hi.pe he.pe hs) fun env G De Dv σ H rs rh ex en q => intoE rs rh (ex.at rs) q fun z zv G1 H1 rz rh1 k1 q1 =>
    intoE (rs.keep k1) rh1 ((ex.at rs).keep k1) q1 fun x xv G2 H2 rx rh2 k2 q2 => intoE ((rs.keep k1).keep k2) rh2 (((ex.at rs).keep k1).keep k2) q2 fun y yv G3 H3 ry rh3 k3 q3 => by
      obtain ⟨a, ks, vs, k, ex', g, hk, hl, q4⟩ := q3
      subst ex'
      have rx := rx.keep k3
      cases rx
      obtain ⟨us, hu, lu, ru⟩ := rh3 a _ g
      obtain ⟨b, rfl, hb⟩ := keyT_at ry hk
      have kp : Keep G3 H3 (gset G3 a (.dct (putKT ks k) (putVT ks vs k z))) (upd H3 a (.dT (putK (ks.zip us) k zv))) := Keep.put g
      have ln : (ks.zip us).length < sizeLine := by
        rw [List.length_zip]
        omega
      refine ⟨a, _, rfl, .inr ⟨_, k, b, hu, rfl, hb, ln, rfl⟩, en.nx _ _ _ _ (rs.keep (((k1.trans k2).trans k3).trans kp)) (rh3.put (d := .dct (putKT ks k) (putVT ks vs k z)) g ⟨putVT ks us k zv, by rw [upd_same, putT_zip lu], putT_len lu, (ru.keep kp).putVT (((rz.keep k2).keep k3).keep kp) k⟩) (((k1.trans k2).trans k3).trans kp) q4⟩
def wGetT (to ti : TEd) : TEd := fun env G Q Ex => to env G (fun x G1 => ti env G1 (fun y G2 => ∃ a ks vs k d, x = .ref a ∧ G2 a = some (.dct ks vs) ∧ keyT y = some k ∧ lookT ks vs k = some d ∧ Q d G2) Ex) Ex
theorem q_getT (hu : X.A.units + 64 < cLine) (ho : QE T X W o to) (hi : QE T X W i ti) (hs : NoSl i := by intro _; rfl) : QE T X W (.Subscript o i pos) (wGetT to ti) :=
  QE.of (pe_dget (by omega) ho.pe hi.pe hs) fun env G σ H Q Ex Qv rs rh ex q k => intoE rs rh ex q fun x xv G1 H1 rx rh1 k1 q1 => intoE (rs.keep k1) rh1 (ex.keep k1) q1 fun y yv G2 H2 ry rh2 k2 q2 => by
    obtain ⟨a, ks, vs, kk, d, ex', g, hk, hl, q3⟩ := q2
    subst ex'
    have rx := rx.keep k2
    cases rx
    obtain ⟨us, hu, lu, ru⟩ := rh2 a _ g
    obtain ⟨b, rfl, hb⟩ := keyT_at ry hk
    obtain ⟨v, hv, rv⟩ := lookT_val ru hl
    exact ⟨a, v, rfl, .inr ⟨_, kk, b, .inl hu, rfl, hb, hv.symm⟩, k _ _ G2 H2 rv rh2 (k1.trans k2) q3⟩
end
end DL
set_option Elab.async false
set_option linter.all false
set_option maxRecDepth 100000
set_option maxHeartbeats 4000000
/-! sorted(t), sorted(d), sorted(d.values()), d a dict with tuples as keys -/
namespace DL
open PySem PySem.W PySem.Spec PyProof.Rows L2
/-! ### d.values() -/
theorem meetsValues {prog : Program} {w : World} {d : Addr} {es : Array DictEntry} {ep : Nat} (hd : (d == sysModules) = false) :
    MeetsIn prog w (Builtin.«dict.values» ⟨[.ref d], []⟩) (fun _ R s => DT.Raw s.heap d es ep ∧
      R (.ok (.ret (.ref s.heap.objs.size))) { s with heap := s.heap.push (DSub.viewOb "dict_values" d) }) :=
  .of_wp fun A R s ⟨hm, h⟩ => by
    show wpAny _ _ (Builtin.Dict.noArgs "values" ⟨[.ref d], []⟩ >>= _) _ _ s
    unfold Builtin.Dict.noArgs
    refine wpAny_bind (wpAny_bind (wpAny_notOrdered_dict hm.typeIs ?_))
    show wpAny _ _ (pure d) _ _ s
    refine wpAny_pure ?_
    show wpAny _ _ (Builtin.Dict.showsAll d >>= _) _ _ s
    unfold Builtin.Dict.showsAll
    rw [if_neg (by rw [hd]; exact Bool.false_ne_true)]
    refine wpAny_bind (wpAny_pure ?_)
    exact wpAny_bind (wpAny_newObj_type (wpAny_pure ⟨_, rfl, h⟩))
def rValuesT : V → List V → Hp → VK → Prop := fun x xs H Q => ∃ (a : Addr) (kvs : List (List L2.Key × V)), x = .ref a ∧ xs = [] ∧ H a = some (.dT kvs) ∧ ∀ p, H p = none → Q (.ref p) (upd H p (viewO "dict_values" p a))
theorem mt_valuesT {X : Cx} : MtR X "dict.values" rValuesT := by
  intro pins s σ H x xs v us Q I rx rxs h
  obtain ⟨a, kvs, rfl, rfl, ha, q⟩ := h
  cases rx
  cases rxs
  obtain ⟨z, hd, xs', rel, o, es, ep, ho, hx, hdat, _⟩ := dt_of I.hok ha
  refine call_meetsIn PySem.F.slot_dict_values (DT.Raw.typeIs (es := es) (ep := ep) ⟨o, ho, hx, hdat⟩) PySem.F.entry_dict_values (PySem.F.args_dict_values_1 _) (meetsValues (es := es) (ep := ep) hd) ⟨⟨o, ho, hx, hdat⟩, ?_⟩
  have hf : H s.heap.objs.size = none := I.hok.fresh (Nat.le_refl _)
  exact ⟨.ref s.heap.objs.size, _, I.laid (t' := s.toks) (fun b u e => Heap.get?_push_of_some _ e) (Nat.le_refl _) (viewO_ok (Heap.get?_push_size _ rfl)), rfl, q _ hf⟩
end DL
namespace DL
open PySem PySem.W PySem.Spec PyProof.Rows L2
theorem items_of {P : Nat → Value → Prop} {acc : Array Value} {us : List Value} {n : Nat} (h : ItemsOf P acc n) (hn : n = us.length) (hp : ∀ i v, P i v → us[i]? = some v) : acc.toList = us := by
  refine List.ext_getElem? fun i => ?_
  by_cases e : i < acc.size
  · have := hp i acc[i] (h.2 i acc[i] (Array.getElem?_eq_getElem e))
    rw [this]
    simp [e]
  · have e2 : us.length ≤ i := by rw [← hn, ← h.1]; omega
    rw [List.getElem?_eq_none e2, List.getElem?_eq_none (by simpa using Nat.le_of_not_lt e)]
theorem kt_vals {H : Hp} : ∀ {kvs : List (List L2.Key × V)} {xs : List (List L2.Key × Addr × Value)}, KT H kvs xs → Vals (kvs.map (·.2)) (xs.map (·.2.2))
  | _, _, .nil => .nil
  | _, _, .cons h t => .cons h.2.2 (kt_vals t)
def kD : L2.Key → D
  | .inl i => .int i
  | .inr x => .str x
def tupK (k : List L2.Key) : D := .tup (k.map kD)
theorem kD_rvs {T : Tb} {G : GH} {H : Hp} : ∀ (k : List L2.Key), RVs T G H (k.map kD) (k.map kV)
  | [] => .nil
  | .inl i :: k => .cons (.int i) (kD_rvs k)
  | .inr x :: k => .cons (.str x) (kD_rvs k)
theorem rh_tup {T : Tb} {G : GH} {H : Hp} (rh : RH T G H) {b : Addr} {u : List V} (h : H b = some (.tup u)) : G b = none := by
  cases e : G b with
  | none => rfl
  | some o =>
    have r := rh b o e
    cases o with
    | lst ds => obtain ⟨_, hx, _⟩ := r; rw [h] at hx; cases hx
    | dic ks ds => obtain ⟨_, hx, _⟩ := r; rw [h] at hx; cases hx
    | ins c ds => obtain ⟨_, _, hx, _⟩ := r; rw [h] at hx; cases hx
    | exo c => have hx : H b = some _ := r; rw [h] at hx; cases hx
    | dct ks ds => obtain ⟨_, hx, _⟩ := r; rw [h] at hx; cases hx
theorem kt_keys {T : Tb} {G : GH} {H : Hp} (rh : RH T G H) (hl : ∀ (b : Addr) (u : List V), H b = some (.tup u) → u.length ≤ sizeLine) : ∀ {kvs : List (List L2.Key × V)} {xs : List (List L2.Key × Addr × Value)}, KT H kvs xs → RVs T G H (kvs.map fun p => tupK p.1) (xs.map fun q => V.ref q.2.1) ∧ Vals (xs.map fun q => V.ref q.2.1) (xs.map fun q => Value.ref q.2.1)
  | _, _, .nil => ⟨.nil, .nil⟩
  | _, _, .cons (a := p) (b := q) h t => by
    obtain ⟨a, b⟩ := kt_keys rh hl t
    have l : (p.1.map kD).length ≤ sizeLine := by
      have := hl _ _ h.2.1
      rw [List.length_map] at this ⊢
      exact this
    exact ⟨.cons (.tup ⟨rh_tup rh h.2.1, .inl h.2.1⟩ l (kD_rvs p.1)) a, .cons rfl b⟩
/-- sorted of what is collected -/
theorem sorted_of {T : Tb} {X : Cx} {pins : List (Addr × Obj)} {σ : List (Option V)} {G : GH} {H : Hp} {s : Shared} {it : Value} {ds : List D} {vs : List V} {us : List Value} {Q : VK} (hK : X.K = T.K) (hu : X.A.units + 64 < cLine) (I : Inv X pins σ H s)
    (hcol : ∀ (K : List Value → Shared → Prop) (E' : Value → Shared → Prop), (∀ (h' : Heap) (tk : Nat), (∀ b o, s.heap.get? b = some o → h'.get? b = some o) → K us ⟨h', s.gens, s.drawn, tk, s.os⟩) → wpAny (model X.prog X.w) X.A.in1 (collect it) K E' s)
    (rds : RVs T G H ds vs) (rv : Vals vs us) (ok : SortOk ds) (hL : ds.length ≤ sizeLine) (q : ∀ l zs, H l = none → RVs T G H (sortedD ds) zs → Q (.ref l) (upd H l (.lst zs))) :
    wpAny (model X.prog X.w) X.A (call (.builtin "sorted") [it]) (EP X pins σ Q) X.xe s := by
  obtain ⟨h1, h2, h3⟩ := ok
  obtain ⟨e1, e2⟩ := each_vals hK I rds rv fun d m => (h1 d m).1
  refine sorted_any (bs := ds) (enc := pyR) (Rel := fun u d => ∃ v, RV T G H d v ∧ RelV v u) (fun K E' hk => hcol K E' fun h' tk kp => hk us h' tk kp e1 e2) h2 h3 hL (fun d m => by have := (h1 d m).2; omega) fun out h' tk L kp nL ⟨c, hLo⟩ hlen eo => ?_
  obtain ⟨zs, r1, r2⟩ := vals_each eo
  have fr : H L = none := I.hok.gone nL
  refine ⟨.ref _, upd H L (.lst zs), I.laidN (t' := tk) kp nL fr ?_, rfl, q _ zs fr r1⟩
  unfold ObjOk
  refine ⟨?_, out, c, r2, hLo⟩
  have := r1.length
  rw [← this, List.length_mergeSort]
  exact hL
abbrev rSortV (T : Tb) : List V → Hp → VK → Prop := fun xs H Q => ∃ p a kvs G ds, xs = [.ref p] ∧ H p = some (viewO "dict_values" p a) ∧ H a = some (.dT kvs) ∧ RVs T G H ds (kvs.map (·.2)) ∧ SortOk ds ∧ ∀ l zs, H l = none → RVs T G H (sortedD ds) zs → Q (.ref l) (upd H l (.lst zs))
theorem call_sortV {T : Tb} {X : Cx} (hc : X.calm = true) (hK : X.K = T.K) (hu : X.A.units + 64 < cLine) : CallR X (.builtin "sorted") (rSortV T) := by
  intro pins s σ H xs us Q I r h
  obtain ⟨p, a, kvs, G, ds, rfl, hp, ha, rds, ok, q⟩ := h
  obtain ⟨u, rfl, ru⟩ := vals1 r
  obtain rfl : u = Value.ref p := ru
  obtain ⟨z, hd, xs', rel, o, es, ep, ho, hx, hdat, he, _⟩ := dt_of I.hok ha
  have hv : s.heap.get? p = some (DSub.viewOb "dict_values" a) := (show ObjOk X.prog X.w H s.heap p (viewO "dict_values" p a) from I.hok p _ hp).1
  have hn : es.size = (xs'.map (·.2.2)).length := by rw [← Array.length_toList, he, List.length_map, List.length_map]
  have hz : es.size ≤ sizeLine := by rw [hn, List.length_map, ← Paired.length rel]; exact z
  refine sorted_of hK hu I (us := xs'.map (·.2.2)) (fun K E' hk => ?_) rds (kt_vals rel) ok (by rw [rds.length, List.length_map]; exact z) q
  have hok : s.heap.IsValuesView p a ∧ s.heap.DictRaw a es ep := ⟨⟨_, hv, rfl, rfl⟩, o, ho, hx, hdat⟩
  refine kdu_collect (KdlSrc.rawValues (d := a) (r := p) (es := es) (ep := ep)) (I.ok.hd hc) hok hz fun h' tk acc kp ia => ?_
  have e : acc.toList = xs'.map (·.2.2) := items_of ia hn fun i v ⟨hi, ev⟩ => by
    have e1 : es.toList[i]? = some es[i] := by simp [hi]
    rw [he, List.getElem?_map] at e1
    obtain ⟨x, hx1, hx2⟩ := Option.map_eq_some_iff.mp e1
    rw [List.getElem?_map, hx1, ev, ← hx2]
    rfl
  rw [e]
  exact hk h' tk kp
abbrev rSortK (T : Tb) : List V → Hp → VK → Prop := fun xs H Q => ∃ a kvs G, xs = [.ref a] ∧ H a = some (.dT kvs) ∧ RH T G H ∧ SortOk (kvs.map fun p => tupK p.1) ∧ ∀ l zs, H l = none → RVs T G H (sortedD (kvs.map fun p => tupK p.1)) zs → Q (.ref l) (upd H l (.lst zs))
theorem call_sortK {T : Tb} {X : Cx} (hc : X.calm = true) (hK : X.K = T.K) (hu : X.A.units + 64 < cLine) : CallR X (.builtin "sorted") (rSortK T) := by
  intro pins s σ H xs us Q I r h
  obtain ⟨a, kvs, G, rfl, ha, rh, ok, q⟩ := h
  obtain ⟨u, rfl, ru⟩ := vals1 r
  obtain rfl : u = Value.ref a := ru
  obtain ⟨z, hd, xs', rel, o, es, ep, ho, hx, hdat, he, _⟩ := dt_of I.hok ha
  have hn : es.size = (xs'.map fun q => Value.ref q.2.1).length := by rw [← Array.length_toList, he, List.length_map, List.length_map]
  have hz : es.size ≤ sizeLine := by rw [hn, List.length_map, ← Paired.length rel]; exact z
  obtain ⟨r1, r2⟩ := kt_keys (T := T) rh (fun b u e => (show ObjOk X.prog X.w H s.heap b (.tup u) from I.hok b _ e).1) rel
  refine sorted_of hK hu I (us := xs'.map fun q => Value.ref q.2.1) (fun K E' hk => ?_) r1 r2 ok (by rw [List.length_map]; exact z) q
  have hok : s.heap.DictRaw a es ep := ⟨o, ho, hx, hdat⟩
  refine kdu_collect (KdlSrc.rawDict (d := a) (es := es) (ep := ep) hd) (I.ok.hd hc) hok hz fun h' tk acc kp ia => ?_
  have e : acc.toList = xs'.map fun q => Value.ref q.2.1 := items_of ia hn fun i v ⟨hi, ev⟩ => by
    have e1 : es.toList[i]? = some es[i] := by simp [hi]
    rw [he, List.getElem?_map] at e1
    obtain ⟨x, hx1, hx2⟩ := Option.map_eq_some_iff.mp e1
    rw [List.getElem?_map, hx1, ev, ← hx2]
    rfl
  rw [e]
  exact hk h' tk kp
/-! ### of data -/
section
variable {T : Tb} {X : Cx} {W : WX} {e o : Expr} {es : List Expr} {u : TAd} {te to : TEd} {p pos apos cpos : Pos}
def sortTO : OL := fun ds G Q => match ds with
  | [x] => ∃ xs, x = .tup xs ∧ SortOk xs ∧ xs.length ≤ sizeLine ∧ Q (.lst (sortedD xs)) G
  | _ => False
theorem ci_sortT : CallI T (rSortT T) sortTO := by
  intro G H ds vs Q Qv rh r q k
  rcases r with _ | ⟨rx, _ | ⟨_, _⟩⟩
  · exact False.elim q
  · obtain ⟨xs, e, ok, l, q⟩ := q
    subst e
    cases rx with
    | tup hx l' r => exact ⟨_, _, G, xs, rfl, hx.sq, r, ok, l, fun p zs np rz => k _ _ _ _ (.lst (rh.fresh np) upd_same (by rw [sortedD_len]; exact l) (rz.keep (Keep.new np))) (rh.new np) (Keep.new np) q⟩
  · exact False.elim q
def sortKO : OL := fun ds G Q => match ds with
  | [x] => ∃ a ks xs, x = .ref a ∧ G a = some (.dct ks xs) ∧ SortOk (ks.map tupK) ∧ ks.length ≤ sizeLine ∧ Q (.lst (sortedD (ks.map tupK))) G
  | _ => False
theorem zip_keysT {α β γ : Type} (f : α → γ) : ∀ {ks : List α} {xs : List β}, ks.length = xs.length → (ks.zip xs).map (fun p => f p.1) = ks.map f
  | [], _, _ => rfl
  | _ :: _, [], h => nomatch h
  | k :: ks, x :: xs, h => by rw [List.zip_cons_cons, List.map_cons, List.map_cons, zip_keysT f (Nat.succ.inj h)]
theorem zip_valsT {α β : Type} : ∀ {ks : List α} {xs : List β}, ks.length = xs.length → (ks.zip xs).map (·.2) = xs
  | [], [], _ => rfl
  | [], _ :: _, h => nomatch h
  | _ :: _, [], h => nomatch h
  | k :: ks, x :: xs, h => by rw [List.zip_cons_cons, List.map_cons, zip_valsT (Nat.succ.inj h)]
theorem ci_sortK : CallI T (rSortK T) sortKO := by
  intro G H ds vs Q Qv rh r q k
  rcases r with _ | ⟨rx, _ | ⟨_, _⟩⟩
  · exact False.elim q
  · obtain ⟨a, ks, xs, e, g, ok, l, q⟩ := q
    subst e
    cases rx
    obtain ⟨us, hu, lu, ru⟩ := rh a _ g
    have ez := zip_keysT tupK lu
    refine ⟨a, _, G, rfl, hu, rh, by rw [ez]; exact ok, fun p zs np rz => ?_⟩
    rw [ez] at rz
    exact k _ _ _ _ (.lst (rh.fresh np) upd_same (by rw [sortedD_len, List.length_map]; exact l) (rz.keep (Keep.new np))) (rh.new np) (Keep.new np) q
  · exact False.elim q
theorem q_sortT (hK : X.K = T.K) (hu : X.A.units + 64 < cLine) (hg : Gl X "sorted") (hm : X.mg "sorted" = none) (ha : QA T X W (e :: es) u) (he : starEach (e :: es) X.env = (false, eval e X.env) :: starEach es X.env := by rfl) (hpl : (backTo pos (starEach es X.env)).any (·.1) = false := by rfl) :
    QE T X W (.Call (.Name "sorted" p) (e :: es) [] pos) (wCall sortTO u) := q_callB (call_sortT hK hu) ci_sortT hg hm (by decide +kernel) ha (by decide) (by decide) he hpl
theorem q_sortK (hc : X.calm = true) (hK : X.K = T.K) (hu : X.A.units + 64 < cLine) (hg : Gl X "sorted") (hm : X.mg "sorted" = none) (ha : QA T X W (e :: es) u) (he : starEach (e :: es) X.env = (false, eval e X.env) :: starEach es X.env := by rfl) (hpl : (backTo pos (starEach es X.env)).any (·.1) = false := by rfl) :
    QE T X W (.Call (.Name "sorted" p) (e :: es) [] pos) (wCall sortKO u) := q_callB (call_sortK hc hK hu) ci_sortK hg hm (by decide +kernel) ha (by decide) (by decide) he hpl
def wSortV (to : TEd) : TEd := fun env G Q Ex => to env G (fun x G1 => ∃ a ks xs, x = .ref a ∧ G1 a = some (.dct ks xs) ∧ SortOk xs ∧ xs.length ≤ sizeLine ∧ Q (.lst (sortedD xs)) G1) Ex
theorem q_sortV (hc : X.calm = true) (hK : X.K = T.K) (hu : X.A.units + 64 < cLine) (hg : Gl X "sorted") (hm : X.mg "sorted" = none) (ho : QE T X W o to) (hbase : attributeBase o "values" X.env (eval o X.env) = eval o X.env := by rfl) (hline : (apos.endLine == cpos.line) = true := by rfl)
    (he : starEach [.Call (.Attribute o "values" apos) [] [] cpos] X.env = (false, eval (.Call (.Attribute o "values" apos) [] [] cpos) X.env) :: starEach [] X.env := by rfl) (hpl : (backTo pos (starEach [] X.env)).any (·.1) = false := by rfl) :
    QE T X W (.Call (.Name "sorted" p) [.Call (.Attribute o "values" apos) [] [] cpos] [] pos) (wSortV to) :=
  QE.of (pe_callB (call_sortV hc hK hu) hg hm (by decide +kernel) (pa_cons (pe_bm0 PySem.F.plainAttrs_dict PySem.F.slot_dict_values PySem.F.type_dict_values mt_valuesT ho.pe hbase hline) pa_nil he) (by decide) (by decide) he hpl) fun env G σ H Q Ex Qv rs rh ex q k => intoE rs rh ex q fun x xv G1 H1 rx rh1 k1 q1 => by
    obtain ⟨a, ks, xs, e, g, ok, l, q2⟩ := q1
    subst e
    cases rx
    obtain ⟨us, hu, lu, ru⟩ := rh1 a _ g
    refine ⟨.inr (.inr (.inl ⟨rfl, .inr ⟨_, hu⟩⟩)), a, _, rfl, rfl, hu, fun v nv => ?_⟩
    have rh2 := rh1.new (u := viewO "dict_values" v a) nv
    have k2 : Keep G1 H1 G1 (upd H1 v (viewO "dict_values" v a)) := Keep.new nv
    have na : a ≠ v := ne_of_none hu nv
    refine ⟨v, a, _, G1, xs, rfl, upd_same, (upd_ne na).trans hu, by rw [zip_valsT lu]; exact ru.keep k2, ok, fun p zs np rz => ?_⟩
    exact k _ _ _ _ (.lst (rh2.fresh np) upd_same (by rw [sortedD_len]; exact l) (rz.keep (Keep.new np))) (rh2.new np) ((k1.trans k2).trans (Keep.new np)) q2
end
end DL
set_option Elab.async false
set_option linter.all false
set_option maxRecDepth 100000
set_option maxHeartbeats 4000000
/-! len(set(x)), x a list of tuples of integers -/
namespace DL
open PySem PySem.Spec PyProof.Rows L2
theorem nodup_len {α : Type} [DecidableEq α] : ∀ {l m : List α}, l.Nodup → (∀ x ∈ l, x ∈ m) → l.length ≤ m.length
  | [], _, _, _ => Nat.zero_le _
  | x :: l, m, h, k => by
    obtain ⟨h1, h2⟩ := List.nodup_cons.mp h
    have hx := k x List.mem_cons_self
    have ih := nodup_len (l := l) (m := m.erase x) h2 fun y hy => (List.mem_erase_of_ne (fun e => h1 (by rw [← e]; exact hy))).mpr (k y (List.mem_cons_of_mem _ hy))
    rw [List.length_erase_of_mem hx] at ih
    have : 0 < m.length := List.length_pos_of_mem hx
    rw [List.length_cons]
    omega
theorem nodup_of_len {α : Type} [DecidableEq α] : ∀ {l m : List α}, l.Nodup → (∀ x ∈ l, x ∈ m) → l.length = m.length → m.Nodup
  | [], m, _, _, e => by
    have : m = [] := List.eq_nil_of_length_eq_zero (by rw [← e]; rfl)
    subst this
    exact List.nodup_nil
  | x :: l, m, h, k, e => by
    obtain ⟨h1, h2⟩ := List.nodup_cons.mp h
    have hx := k x List.mem_cons_self
    have k2 : ∀ y ∈ l, y ∈ m.erase x := fun y hy => (List.mem_erase_of_ne (fun e => h1 (by rw [← e]; exact hy))).mpr (k y (List.mem_cons_of_mem _ hy))
    have le := List.length_erase_of_mem hx
    have : 0 < m.length := List.length_pos_of_mem hx
    rw [List.length_cons] at e
    have nd := nodup_of_len (l := l) (m := m.erase x) h2 k2 (by omega)
    have nx : x ∉ m.erase x := fun hx2 => by
      have := nodup_len (l := l) (m := (m.erase x).erase x) h2 fun y hy => (List.mem_erase_of_ne (fun e => h1 (by rw [← e]; exact hy))).mpr (k2 y hy)
      rw [List.length_erase_of_mem hx2] at this
      have : 0 < (m.erase x).length := List.length_pos_of_mem hx2
      omega
    exact (List.perm_cons_erase hx).nodup_iff.mpr (List.nodup_cons.mpr ⟨nx, nd⟩)
section
variable {T : Tb} {X : Cx} {W : WX}
def tLenSetP (K : PySem.W.Frag) (ta : TE) : TE := fun σ H Q => ta σ H fun x H1 => ∃ (l : Addr) (ks : List (Addr × List Int)), x = V.ref l ∧ SqL K H1 l (ks.map fun p => V.ref p.1) ∧ (∀ p ∈ ks, SqT K H1 p.1 (p.2.map V.int)) ∧ ks.length < 64 ∧
  ∀ (n : Nat), n ≤ ks.length → (n = ks.length ↔ (ks.map (·.2)).Nodup) → Q (.int (n : Nat)) H1
theorem pe_lenSetP {a : Expr} {ta : TE} {p p2 q pos : Pos} (hc : X.calm = true) (hu : X.A.units + 64 < cLine) (hg : Gl X "len") (hm : X.mg "len" = none) (hg2 : Gl X "set") (hm2 : X.mg "set" = none) (ha : PE X a ta)
    (na : starEach [a] X.env = (false, eval a X.env) :: starEach [] X.env := by rfl) : PE X (.Call (.Name "len" p) [.Call (.Name "set" p2) [a] [] q] [] pos) (tLenSetP X.K ta) := by
  constructor
  intro pins s σ H Q I h
  refine Call_ (ld_blt I hg hm boot_len (PyProof.Rows.callWith_builtin1 (PyProof.Rows.args_cons ?_ rfl) rfl rfl))
  refine Call_ (ld_blt I hg2 hm2 boot_set (PyProof.Rows.callWith_type1 (PyProof.Rows.args_cons (thn (ha.run pins s σ H _ I h) ?_) na) na rfl))
  rintro v u ⟨x, H1, I1, r1, l, ks, rfl, hl, hk, hf, q1⟩
  apply PyProof.Rows.args_nil
  cases r1
  obtain ⟨its, rv, pl, hz⟩ := I1.list hl
  refine call_set_tups (P := X.prog) (w := X.w) ks (I1.ok.hd hc) pl.isList (by simpa using refs_of_vals rv) (fun p hp => I1.isT (hk p hp)) hf (by omega) fun h' tk L es ep t R g k => ?_
  refine PyProof.Rows.args_nil ?_
  obtain ⟨o, ho, hex, hd⟩ := R.ob
  have I2 : Inv X pins σ H1 { u with heap := h', toks := tk } := I1.kept k
  have hn : es.size = L.length := SetTR.size (s := ⟨h', u.gens, u.drawn, tk, u.os⟩) R
  have sub : ∀ y ∈ L.map (·.2), y ∈ ks.map (·.2) := fun y hy => by
    obtain ⟨p, hp, e⟩ := List.mem_map.mp hy
    exact List.mem_map.mpr ⟨p, List.mem_of_mem_take (g.sub p hp), e⟩
  have sup : ∀ y ∈ ks.map (·.2), y ∈ L.map (·.2) := fun y hy => by
    obtain ⟨p, hp, e⟩ := List.mem_map.mp hy
    rw [← e]
    exact g.all p (by rw [List.take_length]; exact hp)
  have le : L.length ≤ ks.length := by simpa using nodup_len R.nd sub
  have fits : t.fits es.size = true := SetTR.fits (s := ⟨h', u.gens, u.drawn, tk, u.os⟩) R
  refine call_len_set ho hex hd fits (by rw [hn]; omega) ⟨.int (es.size : Nat), H1, I2.tok _, ⟨_, rfl⟩, ?_⟩
  rw [hn]
  refine q1 _ le ⟨fun e => nodup_of_len R.nd sub (by simpa using e), fun nd => Nat.le_antisymm le (by simpa using nodup_len nd sup)⟩
/-- n is as many as there are different ones -/
def wLenSetP (te : TEd) : TEd := fun env G Q Ex => te env G (fun d G1 => ∃ (ds : List D) (ns : List (List Int)), d = .lst ds ∧ ds = ns.map (fun k => D.tup (k.map D.int)) ∧ ns.length < 64 ∧ ∀ (n : Nat), n ≤ ns.length → (n = ns.length ↔ ns.Nodup) → Q (.int (n : Nat)) G1) Ex
theorem tups_at {G : GH} {H : Hp} : ∀ {ns : List (List Int)} {vs : List V}, RVs T G H (ns.map fun k => D.tup (k.map D.int)) vs → ∃ ks : List (Addr × List Int), vs = ks.map (fun p => V.ref p.1) ∧ ks.map (·.2) = ns ∧ ∀ p ∈ ks, SqT T.K H p.1 (p.2.map V.int)
  | [], _, .nil => ⟨[], rfl, rfl, fun _ h => nomatch h⟩
  | n :: ns, _, .cons r t => by
    obtain ⟨ks, e1, e2, h⟩ := tups_at t
    cases r with
    | tup hx l r =>
      rename_i b xs
      have e := ints_rvT r
      subst e
      refine ⟨(b, n) :: ks, by rw [e1]; rfl, by rw [List.map_cons, e2], fun p hp => ?_⟩
      rcases List.mem_cons.mp hp with e | hp
      · subst e; exact hx.sq
      · exact h p hp
theorem q_lenSetP {a : Expr} {te : TEd} {p p2 q pos : Pos} (hc : X.calm = true) (hK : X.K = T.K) (hu : X.A.units + 64 < cLine) (hm : X.mg "len" = none) (hm2 : X.mg "set" = none) (ha : QE T X W a te) (hg : Gl X "len" := by rfl) (hg2 : Gl X "set" := by rfl)
    (na : starEach [a] X.env = (false, eval a X.env) :: starEach [] X.env := by rfl) : QE T X W (.Call (.Name "len" p) [.Call (.Name "set" p2) [a] [] q] [] pos) (wLenSetP te) :=
  QE.of (pe_lenSetP hc hu hg hm hg2 hm2 ha.pe na) fun env G σ H Q Ex Qv rs rh ex q k => by
    refine intoE rs rh ex q fun d v G1 H1 rv rh1 k1 ⟨ds, ns, e, e2, few, q1⟩ => ?_
    subst e e2
    cases rv with
    | lst g hx l rvs =>
      obtain ⟨ks, e1, e2, h⟩ := tups_at rvs
      have ln : ks.length = ns.length := by rw [← e2, List.length_map]
      refine ⟨_, ks, rfl, hK ▸ SqL.of (by rw [← e1]; exact hx), hK ▸ h, by omega, fun n a b => k _ _ _ _ (.int _) rh1 k1 (q1 n (by omega) (by rw [ln, e2] at b; exact b))⟩
end
end DL
set_option Elab.async false
set_option linter.all false
set_option maxRecDepth 100000
set_option maxHeartbeats 4000000
/-! a <= b < c as a test -/
namespace DL
open PySem PySem.Spec PyProof.Rows L2
theorem qt_leLt {T : Tb} {X : Cx} {W : WX} {a b c : Expr} {ta tb tc : TEd} {pos : Pos} (ha : QE T X W a ta) (hb : QE T X W b tb) (hc : QE T X W c tc) (hm : lastMarks [.LtE, .Lt] [b, c] = false := by with_unfolding_all rfl) : QT T X W (.Compare a [.LtE, .Lt] [b, c] pos) (wTest (wChain leO ltO ta tb tc)) :=
  qt_chain (oi_int0 fun _ _ _ _ => .bl _) (oi_int0 fun _ _ _ _ => .bl _) (pt_chain op_le op_lt ha.pe hb.pe hc.pe hm)
end DL
set_option Elab.async false
set_option linter.all false
set_option maxRecDepth 100000
set_option maxHeartbeats 4000000
/-! what stands at a slot's address is told no more -/
namespace DL
open PySem PySem.Spec PyProof.Rows L2
/-- once e is told: what the slot i points at (it has stayed there) is forgotten -/
def wForget (i : Nat) (te : TEd) : TEd := fun env G Q Ex => te env G (fun x G1 => ∃ a, lk env i = some (.ref a) ∧ Q x (gdel G1 a)) Ex
theorem q_forget {T : Tb} {X : Cx} {W : WX} {e : Expr} {te : TEd} (i : Nat) (h : QE T X W e te) : QE T X W e (wForget i te) :=
  ⟨PE.imp h.pe fun σ H Qv ⟨env, G, Q, Ex, rs, rh, ex, q, kq⟩ => ⟨env, G, fun x G1 => ∃ a, lk env i = some (.ref a) ∧ Q x (gdel G1 a), Ex, rs, rh, ex, q, fun v H' ⟨d, G', rd, rh', k', ⟨a, _, q'⟩⟩ =>
    kq _ _ ⟨d, gdel G' a, rd.keep Keep.freeze, rh'.freeze a, k'.trans Keep.freeze, q'⟩⟩⟩
end DL
set_option Elab.async false
set_option linter.all false
set_option maxRecDepth 100000
set_option maxHeartbeats 4000000
/-! tuples that are known by their objects: tuple(list), displays, t.index(text) -/
namespace DL
open PySem PySem.Spec PyProof.Rows L2
/-- such a tuple, as any tuple -/
def wk : D → D
  | .tupp ds => .tup ds
  | d => d
theorem RV.wk {T : Tb} {G : GH} {H : Hp} {d : D} {v : V} (r : RV T G H d v) : RV T G H (wk d) v := by
  cases r with
  | tupp g h hd n l r => exact .tup (FzT.frz (K := T.K) g h hd n) l r
  | non => exact .non
  | bl b => exact .bl b
  | int i => exact .int i
  | str x => exact .str x
  | ty n => exact .ty n
  | ref a => exact .ref a
  | tup a l b => exact .tup a l b
  | lst a b l c => exact .lst a b l c
  | frl a l b => exact .frl a l b
  | dic a b c d e => exact .dic a b c d e
  | obj a b c d => exact .obj a b c d
  | exc a b c d => exact .exc a b c d
def wWk (te : TEd) : TEd := fun env G Q Ex => te env G (fun d G1 => Q (wk d) G1) Ex
theorem q_wk {T : Tb} {X : Cx} {W : WX} {e : Expr} {te : TEd} (h : QE T X W e te) : QE T X W e (wWk te) :=
  ⟨PE.imp h.pe fun σ H Qv ⟨env, G, Q, Ex, rs, rh, ex, q, kq⟩ => ⟨env, G, fun d G1 => Q (wk d) G1, Ex, rs, rh, ex, q, fun v H' ⟨d, G', rd, rh', k', q'⟩ => kq _ _ ⟨wk d, G', rd.wk, rh', k', q'⟩⟩⟩
theorem wk_p {ds : List D} : wk (.tupp ds) = .tup ds := rfl
/-- no integer at the head, as data -/
def NID : List D → Prop
  | .int _ :: _ => False
  | _ => True
theorem NID.ni {T : Tb} {G : GH} {H : Hp} {ds : List D} {vs : List V} (h : NID ds) (r : RVs T G H ds vs) : NI vs := by
  rintro i t rfl
  cases r with
  | cons a b =>
    cases a
    exact h
theorem nid_strs : ∀ zs : List Str, NID (zs.map D.str)
  | [] => trivial
  | _ :: _ => trivial
/-! ### tuple(list) -/
abbrev rTupleP (K : PySem.W.Frag) : List V → Hp → VK → Prop := fun xs H Q => ∃ (p : Addr) (vs : List V), xs = [.ref p] ∧ SqL K H p vs ∧ vs.length ≤ sizeLine ∧ ∀ (l : Addr) (o : Obj), H l = none → o.dict = none → Q (.ref l) (upd H l (.frz o (.tup vs)))
theorem call_tupleP {X : Cx} : CallR X (.type "tuple") (rTupleP X.K) := by
  intro pins s σ H xs us Q I r h
  obtain ⟨p, zs, rfl, hs, hl, q⟩ := h
  obtain ⟨u, rfl, ru⟩ := vals1 r
  obtain rfl : u = Value.ref p := ru
  obtain ⟨its, rv, il, hz⟩ := I.list hs
  have ln : its.toArray.size ≤ sizeLine := by rw [List.size_toArray, ← Paired.length rv]; exact hl
  refine call_tuple_list (items := its.toArray) il.isList (fun h' kp => ?_) ln
  have nL : s.heap.get? h'.objs.size = none := by
    cases e : s.heap.get? h'.objs.size with
    | none => rfl
    | some o => exact absurd (Heap.lt_size (kp _ o e)) (Nat.lt_irrefl _)
  have fr : H h'.objs.size = none := I.hok.gone nL
  refine ⟨.ref _, upd H h'.objs.size (.frz { cls := Value.type "tuple", data := Data.seq its.toArray } (.tup zs)), I.laidN (t' := s.toks) (fun b o e => Heap.get?_push_of_some _ (kp b o e)) nL fr ?_, rfl, q _ _ fr rfl⟩
  unfold ObjOk
  refine ⟨Heap.get?_push_size _ rfl, ?_⟩
  show zs.length ≤ sizeLine ∧ ∃ its, Vals zs its ∧ PyProof.Rows.IsTup _ _ its.toArray
  exact ⟨hl, its, rv, _, Heap.get?_push_size _ rfl, rfl, _, rfl⟩
def tuplePO : OL := fun ds G Q => match ds with
  | [x] => ∃ (xs : List D), seqD G x = some xs ∧ (∀ ys, x ≠ .tup ys) ∧ NID xs ∧ xs.length ≤ sizeLine ∧ Q (.tupp xs) G
  | _ => False
theorem ci_tupleP {T : Tb} {K : PySem.W.Frag} (hK : K = T.K) : CallI T (rTupleP K) tuplePO := by
  intro G H ds vs Q Qv rh r q k
  subst hK
  rcases r with _ | ⟨rx, _ | ⟨_, _⟩⟩
  · exact False.elim q
  · obtain ⟨xs, e, ht, ni, l, q⟩ := q
    obtain ⟨a, ys, rfl, hs, r⟩ := seqL_at rh rx e ht
    exact ⟨a, ys, rfl, hs, by rw [← r.length]; exact l, fun p o np hd => k _ _ G _ (.tupp (rh.fresh np) upd_same hd (ni.ni r) l (r.keep (Keep.new np))) (rh.new np) (Keep.new np) q⟩
  · exact False.elim q
section
variable {T : Tb} {X : Cx} {W : WX} {e f o : Expr} {es : List Expr} {u : TAd} {te to tf : TEd} {p pos apos cpos : Pos}
theorem q_tupleP (hK : X.K = T.K) (hm : X.mg "tuple" = none) (ha : QA T X W (e :: es) u) (hg : Gl X "tuple" := by rfl) (he : starEach (e :: es) X.env = (false, eval e X.env) :: starEach es X.env := by rfl) (hpl : (backTo pos (starEach es X.env)).any (·.1) = false := by rfl) :
    QE T X W (.Call (.Name "tuple" p) (e :: es) [] pos) (wCall tuplePO u) := q_callTy call_tupleP (ci_tupleP hK) hg hm rfl ha (by decide) (by decide) he hpl
/-! ### a display -/
def tTupP (t : TA) : TE := fun σ H Q => t σ H fun vs H1 => vs.length ≤ sizeLine ∧ ∀ (l : Addr) (o : Obj), H1 l = none → o.dict = none → Q (.ref l) (upd H1 l (.frz o (.tup vs)))
theorem pe_tupP {t : TA} {k : Nat} (ha : PA X es t) : PE X (.Tuple es k pos) (tTupP t) := by
  constructor
  intro pins s σ H Q I h
  refine wpAny_Tuple (thn (ha.run pos pins s σ H _ I h) ?_)
  rintro us s1 ⟨vs, H1, I1, rv, l, q⟩
  have ln : us.length ≤ sizeLine := by rw [← Paired.length rv]; exact l
  refine ⟨ln, ?_⟩
  have fr : H1 s1.heap.objs.size = none := I1.fresh
  refine ⟨.ref _, upd H1 s1.heap.objs.size (.frz { cls := Value.type "tuple", data := Data.seq us.toArray } (.tup vs)), I1.laid (t' := s1.toks) (fun b o e => Heap.get?_push_of_some _ e) (Nat.le_refl _) ?_, rfl, q _ _ fr rfl⟩
  unfold ObjOk
  refine ⟨Heap.get?_push_size _ rfl, ?_⟩
  show vs.length ≤ sizeLine ∧ ∃ its, Vals vs its ∧ PyProof.Rows.IsTup _ _ its.toArray
  exact ⟨l, us, rv, _, Heap.get?_push_size _ rfl, rfl, _, rfl⟩
def wTupP (t : TAd) : TEd := fun env G Q Ex => t env G (fun ds G1 => ds.length ≤ sizeLine ∧ NID ds ∧ Q (.tupp ds) G1) Ex
theorem q_tupP {k : Nat} (h : QA T X W es u) : QE T X W (.Tuple es k pos) (wTupP u) :=
  QE.of (pe_tupP h.pa) fun env G σ H Q Ex Qv rs rh ex q k => intoA rs rh ex q fun ds vs G1 H1 rds rh1 k1 ⟨l, ni, q1⟩ => ⟨by rw [← rds.length]; exact l, fun p o np hd =>
    k _ _ G1 _ (.tupp (rh1.fresh np) upd_same hd (ni.ni rds) l (rds.keep (Keep.new np))) (rh1.new np) (k1.trans (Keep.new np)) q1⟩
/-! ### t.index(text) -/
/-- the place of a text -/
def ixS : List Str → Str → Nat
  | [], _ => 0
  | y :: ys, z => if y = z then 0 else ixS ys z + 1
theorem ixS_at : ∀ {zs : List Str} {z : Str}, z ∈ zs → zs[ixS zs z]? = some z ∧ ∀ m, m < ixS zs z → zs[m]? ≠ some z
  | y :: ys, z, h => by
    unfold ixS
    by_cases e : y = z
    · rw [if_pos e]
      exact ⟨by rw [e]; rfl, fun m hm => absurd hm (Nat.not_lt_zero _)⟩
    · rw [if_neg e]
      obtain ⟨h1, h2⟩ := ixS_at ((List.mem_cons.mp h).elim (fun q => absurd q.symm e) id)
      refine ⟨by simpa using h1, fun m hm => ?_⟩
      cases m with
      | zero => simpa using e
      | succ m => simpa using h2 m (by omega)
def tTix (K : PySem.W.Frag) (to : TE) (t : TA) : TE := fun σ H Q => to σ H fun x H1 => ∃ (p : Addr) (ob : Obj) (vs : List V), x = .ref p ∧ H1 p = some (.frz ob (.tup vs)) ∧ ob.dict = none ∧
  t σ H1 fun xs H2 => ∃ (ys : List Str) (z : Str) (j : Nat), xs = [.str z] ∧ SqT K H2 p (ys.map V.str) ∧ ys[j]? = some z ∧ (∀ m, m < j → ys[m]? ≠ some z) ∧ Q (.int (j : Nat)) H2
theorem pe_tix {to : TE} {t : TA} (ho : PE X o to) (ha : PA X (e :: es) t) (hbase : attributeBase o "index" X.env (eval o X.env) = eval o X.env)
    (hfew : ((((backTo cpos (starEach (e :: es) X.env)).all fun x => !x.fst) && (backToKw cpos (keywordEach [] X.env)).all fun x => x.fst.isSome) && decide (((e :: es).length + ([] : List Keyword).length + if ([] : List Keyword).isEmpty = true then 0 else 1) < 30)) = true)
    (hline : (apos.endLine == cpos.line) = true) (hs : starEach (e :: es) X.env = (false, eval e X.env) :: starEach es X.env) (hpl : (backTo cpos (starEach es X.env)).any (·.1) = false) :
    PE X (.Call (.Attribute o "index" apos) (e :: es) [] cpos) (tTix X.K to t) := by
  constructor
  intro pins s σ H Q I h
  refine wpAny_Call_method hbase hfew hline PySem.F.plainAttrs_tuple PySem.F.slot_tuple_index PySem.F.type_tuple_index (thn (ho.run pins s σ H _ I h) ?_)
  rintro v s1 ⟨x, H1, I1, rx, p, ob, zs, rfl, hp, hd, q1⟩
  cases rx
  have ok : s1.heap.get? p = some ob ∧ (zs.length ≤ sizeLine ∧ ∃ its, Vals zs its ∧ PyProof.Rows.IsTup s1.heap p its.toArray) := I1.hok p _ hp
  obtain ⟨o1, _, its, _, o2, h2, hc, _⟩ := ok
  rw [o1] at h2
  cases h2
  refine ⟨⟨ob, o1, hc⟩, fun a e => by cases e; exact ⟨ob, o1, hd⟩, ?_⟩
  refine PyProof.Rows.callWith_method1 (thn (ha.run cpos pins s1 σ H1 _ I1 q1) ?_) hs hpl
  rintro us s2 ⟨vs, H2, I2, rv, ys, z, j, rfl, hsq, hj, hm, q2⟩
  exact mt_tup_index pins s2 σ H2 (.ref p) [.str z] (.ref p) us Q I2 rfl rv ⟨p, ys, z, j, rfl, rfl, hsq, hj, hm, q2⟩
theorem strs_are {G : GH} {H : Hp} : ∀ {zs : List Str} {vs : List V}, RVs T G H (zs.map D.str) vs → vs = zs.map V.str
  | [], _, .nil => rfl
  | z :: zs, _, .cons r t => by
    cases r
    rw [strs_are t]
    rfl
/-- the place of a text that is there -/
def wTix (to : TEd) (t : TAd) : TEd := fun env G Q Ex => to env G (fun x G1 => ∃ zs : List Str, x = .tupp (zs.map D.str) ∧ t env G1 (fun ds G2 => ∃ z : Str, ds = [.str z] ∧ z ∈ zs ∧ Q (.int (ixS zs z : Nat)) G2) Ex) Ex
theorem q_tix (hK : X.K = T.K) (ho : QE T X W o to) (ha : QA T X W (e :: es) u) (hbase : attributeBase o "index" X.env (eval o X.env) = eval o X.env := by rfl)
    (hfew : ((((backTo cpos (starEach (e :: es) X.env)).all fun x => !x.fst) && (backToKw cpos (keywordEach [] X.env)).all fun x => x.fst.isSome) && decide (((e :: es).length + ([] : List Keyword).length + if ([] : List Keyword).isEmpty = true then 0 else 1) < 30)) = true := by rfl)
    (hline : (apos.endLine == cpos.line) = true := by rfl) (hs : starEach (e :: es) X.env = (false, eval e X.env) :: starEach es X.env := by rfl) (hpl : (backTo cpos (starEach es X.env)).any (·.1) = false := by rfl) :
    QE T X W (.Call (.Attribute o "index" apos) (e :: es) [] cpos) (wTix to u) :=
  QE.of (pe_tix ho.pe ha.pa hbase hfew hline hs hpl) fun env G σ H Q Ex Qv rs rh ex q k => intoE rs rh ex q fun x v G1 H1 rx rh1 k1 ⟨zs, ex', q1⟩ => by
    subst ex'
    cases rx with
    | tupp g hx hd n l r =>
      have e := strs_are r
      subst e
      refine ⟨_, _, _, rfl, hx, hd, intoA (rs.keep k1) rh1 (ex.keep k1) q1 fun ds vs G2 H2 rds rh2 k2 ⟨z, ed, hz, q2⟩ => ?_⟩
      subst ed
      rcases rds with _ | ⟨r0, _ | ⟨_, _⟩⟩
      cases r0
      obtain ⟨j1, j2⟩ := ixS_at hz
      have hx2 := (k2 _ _ g hx).1
      exact ⟨zs, z, ixS zs z, rfl, .inl (.inr ⟨_, by rw [hx2]⟩), j1, j2, k _ _ G2 H2 (.int _) rh2 (k1.trans k2) q2⟩
/-! ### [..].index(text) -/
theorem eqV_str (a b : Str) : eqV (.str a) (.str b) = decide (a = b) := by
  show (a == b) = _
  by_cases e : a = b
  · subst e; simp
  · rw [decide_eq_false e]
    exact beq_false_of_ne e
def wLix (to : TEd) (t : TAd) : TEd := fun env G Q Ex => to env G (fun x G1 => ∃ zs : List Str, x = .lst (zs.map D.str) ∧ t env G1 (fun ds G2 => ∃ z : Str, ds = [.str z] ∧ z ∈ zs ∧ Q (.int (ixS zs z : Nat)) G2) Ex) Ex
theorem q_lix (hK : X.K = T.K) (ho : QE T X W o to) (ha : QA T X W (e :: es) u) (hbase : attributeBase o "index" X.env (eval o X.env) = eval o X.env := by rfl)
    (hfew : ((((backTo cpos (starEach (e :: es) X.env)).all fun x => !x.fst) && (backToKw cpos (keywordEach [] X.env)).all fun x => x.fst.isSome) && decide (((e :: es).length + ([] : List Keyword).length + if ([] : List Keyword).isEmpty = true then 0 else 1) < 30)) = true := by rfl)
    (hline : (apos.endLine == cpos.line) = true := by rfl) (hs : starEach (e :: es) X.env = (false, eval e X.env) :: starEach es X.env := by rfl) (hpl : (backTo cpos (starEach es X.env)).any (·.1) = false := by rfl) :
    QE T X W (.Call (.Attribute o "index" apos) (e :: es) [] cpos) (wLix to u) :=
  QE.of (pe_bm PySem.F.plainAttrs_list PySem.F.slot_list_index PySem.F.type_list_index mt_index ho.pe ha.pa hbase hfew hline hs hpl) fun env G σ H Q Ex Qv rs rh ex q k => intoE rs rh ex q fun x v G1 H1 rx rh1 k1 ⟨zs, ex', q1⟩ => by
    subst ex'
    cases rx with
    | lst g hx l r =>
      have e := strs_are r
      subst e
      refine ⟨.inl ⟨rfl, _, SqL.of hx⟩, intoA (rs.keep k1) rh1 (ex.keep k1) q1 fun ds vs G2 H2 rds rh2 k2 ⟨z, ed, hz, q2⟩ => ?_⟩
      subst ed
      rcases rds with _ | ⟨r0, _ | ⟨_, _⟩⟩
      cases r0
      obtain ⟨j1, j2⟩ := ixS_at hz
      refine ⟨_, zs.map V.str, .str z, ixS zs z, .str z, rfl, rfl, SqL.of (k2 _ _ g hx).1, rfl, ?_, ?_, ?_, ?_, k _ _ G2 H2 (.int _) rh2 (k1.trans k2) q2⟩
      · refine List.all_eq_true.mpr fun y hy => ?_
        obtain ⟨w, _, rfl⟩ := List.mem_map.mp hy
        rfl
      · rw [List.getElem?_map, j1]; rfl
      · rw [eqV_str]; exact decide_eq_true rfl
      · intro m z' hm hz'
        rw [List.getElem?_map] at hz'
        obtain ⟨y, hy, rfl⟩ := Option.map_eq_some_iff.mp hz'
        rw [eqV_str]
        exact decide_eq_false fun e => j2 m hm (by rw [hy, e])
end
end DL
set_option Elab.async false
set_option linter.all false
set_option maxRecDepth 100000
set_option maxHeartbeats 4000000
/-! d.get(k, x); dict(a tuple of pairs) -/
namespace DL
open PySem PySem.Spec PyProof.Rows L2
theorem zip_lookN {k : Key} : ∀ {ks : List Key} {ds : List D} {vs : List V}, ks.length = vs.length → ds.length = vs.length → lookK ks ds k = none → valV (ks.zip vs) k = none
  | [], _, _, _, _, _ => rfl
  | g :: ks, [], [], h, _, _ => nomatch h
  | g :: ks, [], v :: vs, _, h, _ => nomatch h
  | g :: ks, d :: ds, [], _, h, _ => nomatch h
  | g :: ks, d :: ds, v :: vs, h1, h2, h => by
    unfold lookK at h
    by_cases e : g = k
    · rw [if_pos e] at h; cases h
    · rw [if_neg e] at h
      have ih := zip_lookN (Nat.succ.inj h1) (Nat.succ.inj h2) h
      unfold valV at ih ⊢
      rw [List.zip_cons_cons, List.find?_cons, decide_eq_false e]
      exact ih
section
variable {T : Tb} {X : Cx} {W : WX} {e f o : Expr} {es : List Expr} {u : TAd} {te to tf : TEd} {p pos apos cpos : Pos}
def wDGet2 (to te tf : TEd) : TEd := fun env G Q Ex => to env G (fun x G1 => ∃ ks vs, x = .dic ks vs ∧ te env G1 (fun y G2 => tf env G2 (fun z G3 => ∃ k, keyD y = some k ∧ Q ((lookK ks vs k).getD z) G3) Ex) Ex) Ex
theorem q_dget2 (hu : X.A.units + 64 < cLine) (ho : QE T X W o to) (he : QE T X W e te) (hf : QE T X W f tf)
    (hbase : attributeBase o "get" X.env (eval o X.env) = eval o X.env := by rfl)
    (hfew : ((((backTo cpos (starEach [e, f] X.env)).all fun x => !x.fst) && (backToKw cpos (keywordEach [] X.env)).all fun x => x.fst.isSome) && decide (([e, f].length + ([] : List Keyword).length + if ([] : List Keyword).isEmpty = true then 0 else 1) < 30)) = true := by rfl)
    (hline : (apos.endLine == cpos.line) = true := by rfl) (htr : backTo cpos (starEach [e, f] X.env) = [(false, eval e X.env), (false, eval f X.env)] := by rfl) :
    QE T X W (.Call (.Attribute o "get" apos) [e, f] [] cpos) (wDGet2 to te tf) :=
  QE.of (pe_dget2 (by omega) ho.pe he.pe hf.pe ⟨hbase, hfew, hline, htr⟩) fun env G σ H Q Ex Qv rs rh ex q k => intoE rs rh ex q fun x xv G1 H1 rx rh1 k1 ⟨ks, vs, ex', q1⟩ => by
    subst ex'
    cases rx with
    | @dic a kvs _ xs _ g hx e l r =>
      subst e
      refine ⟨_, rfl, .inl ⟨_, .inl hx⟩, intoE (rs.keep k1) rh1 (ex.keep k1) q1 fun y yv G2 H2 ry rh2 k2 q2 => intoE ((rs.keep k1).keep k2) rh2 ((ex.keep k1).keep k2) q2 fun z zv G3 H3 rz rh3 k3 ⟨kk, hk, q3⟩ => ?_⟩
      have kp := k2.trans k3
      obtain ⟨hx3, g3⟩ := kp _ _ g hx
      have r3 := r.keep kp
      have hkv := key_val (ry.keep k3) hk
      subst hkv
      refine ⟨_, DGet.k hx3, ?_⟩
      cases e : lookK ks vs kk with
      | none =>
        rw [zip_lookN l r.length e]
        rw [e] at q3
        exact k _ _ G3 H3 rz rh3 ((k1.trans k2).trans k3) q3
      | some d =>
        obtain ⟨v, hv, rv⟩ := zip_lookK r3 e
        rw [hv]
        rw [e] at q3
        exact k _ _ G3 H3 rv rh3 ((k1.trans k2).trans k3) q3
end
/-! ### dict(a tuple of pairs) -/
abbrev rDictT (K : PySem.W.Frag) : List V → Hp → VK → Prop := fun xs H Q => ∃ (a : Addr) (ob : Obj) (ps : List Addr) (kvs : List (Key × V)), xs = [.ref a] ∧ H a = some (.frz ob (.tup (ps.map V.ref))) ∧ ob.dict = none ∧ Paired (fun p kv => SqT K H p [kV kv.1, kv.2]) ps kvs ∧
  ∀ p, H p = none → Q (.ref p) (upd H p (.dK (mergeK [] kvs)))
theorem keyIs_rel {k : Key} {u : Value} (r : RelV (kV k) u) : keyIs k u = true := by
  cases k with
  | inl i =>
    obtain ⟨t, rfl⟩ := r
    simp [keyIs, Value.isInt]
  | inr z =>
    obtain ⟨t, rfl⟩ := r
    simp [keyIs, Value.isStrOf]
theorem pairs_at {X : Cx} {pins : List (Addr × Obj)} {σ : List (Option V)} {H : Hp} {s : Shared} (I : Inv X pins σ H s) : ∀ {ps : List Addr} {kvs : List (Key × V)}, Paired (fun p kv => SqT X.K H p [kV kv.1, kv.2]) ps kvs →
    ∃ (ks : List (Value × Value)) (prs : List (Key × Value)), ks.length = ps.length ∧ prs.length = ps.length ∧ KV kvs prs ∧ ∀ (j : Nat) (p : Addr), ps[j]? = some p → ∃ k v key, ks[j]? = some (k, v) ∧ prs[j]? = some (key, v) ∧ PyProof.Rows.IsTup s.heap p #[k, v] ∧ keyIs key k = true
  | _, _, .nil => ⟨[], [], rfl, rfl, .nil, fun j p h => by simp at h⟩
  | _, _, .cons (a := p) (b := kv) h t => by
    obtain ⟨ks, prs, l1, l2, hk, ha⟩ := pairs_at I t
    obtain ⟨its, rv, tp, _⟩ := I.tuple h
    cases rv with
    | cons r1 rr =>
      cases rr with
      | cons r2 rr =>
        cases rr
        rename_i k v
        refine ⟨(k, v) :: ks, (kv.1, v) :: prs, by simp [l1], by simp [l2], .cons ⟨rfl, r2⟩ hk, fun j q hq => ?_⟩
        cases j with
        | zero =>
          simp at hq
          subst hq
          exact ⟨k, v, kv.1, rfl, rfl, tp, keyIs_rel r1⟩
        | succ j => simpa using ha j q (by simpa using hq)
theorem vals_refs : ∀ {ps : List Addr} {us : List Value}, Vals (ps.map V.ref) us → us = ps.map Value.ref
  | [], _, .nil => rfl
  | p :: ps, _, .cons r t => by
    cases r
    rw [vals_refs t]
    rfl
theorem call_dictT {X : Cx} (hc : X.calm = true) : CallR X (.type "dict") (rDictT X.K) := by
  intro pins s σ H xs us Q I r h
  obtain ⟨a, ob, ps, kvs, rfl, ha, hd, hp, q⟩ := h
  obtain ⟨u, rfl, ru⟩ := vals1 r
  obtain rfl : u = Value.ref a := ru
  have ok : s.heap.get? a = some ob ∧ ((ps.map V.ref).length ≤ sizeLine ∧ ∃ its, Vals (ps.map V.ref) its ∧ PyProof.Rows.IsTup s.heap a its.toArray) := I.hok a _ ha
  obtain ⟨o1, hz, its, rv, o2, h2, hcl, n, hdat⟩ := ok
  rw [o1] at h2
  cases h2
  have e := vals_refs rv
  subst e
  obtain ⟨ks, prs, l1, l2, hkv, hj⟩ := pairs_at I hp
  rw [List.length_map] at hz
  refine PySem.call_dict_pairs (knd := mixKind X.prog X.w) (kvs := prs) (PairArg.tuple a (ps.map Value.ref).toArray (fun i => ps.getD i 0) ks) (I.ok.hd hc) ?_ ?_ (by rw [l1]; exact hz) fun h' tk hm kp => ?_
  · refine ⟨⟨ob, n, o1, hcl, hd, hdat⟩, by rw [List.size_toArray, List.length_map, l1], fun j k v hk => ?_⟩
    have lt : j < ps.length := by
      have := (List.getElem?_eq_some_iff.mp hk).1
      omega
    obtain ⟨k', v', key, e1, e2, tp, _⟩ := hj j ps[j] (List.getElem?_eq_getElem lt)
    rw [hk] at e1
    cases e1
    have eg : ps.getD j 0 = ps[j] := by rw [List.getD_eq_getElem?_getD, List.getElem?_eq_getElem lt]; rfl
    refine ⟨by simp [lt, eg], .inl ?_⟩
    show s.heap.IsTuple (ps.getD j 0) #[k, v]
    rw [eg]
    exact tp
  · refine ⟨by rw [l2, l1], fun i key v hk => ?_⟩
    have lt : i < ps.length := by
      have := (List.getElem?_eq_some_iff.mp hk).1
      omega
    obtain ⟨k', v', key', e1, e2, tp, hi⟩ := hj i ps[i] (List.getElem?_eq_getElem lt)
    rw [hk] at e1
    cases e1
    exact ⟨key', e2, hi⟩
  · have fr : H s.heap.objs.size = none := I.hok.fresh (Nat.le_refl _)
    have lk : (mergeK [] kvs).length ≤ sizeLine := by
      have l3 : kvs.length = prs.length := Paired.length hkv
      exact Nat.le_trans (by simpa using length_mergeK kvs []) (by omega)
    have big := I.big
    refine ⟨.ref _, upd H s.heap.objs.size (.dK (mergeK [] kvs)), I.laid (t' := tk) (fun b o e => kp b o (by simp) e) (Nat.le_refl _) (dk_new lk ?_ (KV.merge hkv .nil) hm), rfl, q _ fr⟩
    exact beq_false_of_ne fun e => absurd big (by rw [e]; exact Nat.lt_irrefl _)
section
variable {T : Tb} {X : Cx} {W : WX} {e : Expr} {es : List Expr} {u : TAd} {p pos : Pos}
/-- of pairs whose first parts are different texts -/
def pairsD (zs : List Str) (vs : List D) : List D := (zs.zip vs).map fun p => D.tup [.str p.1, p.2]
def dictTO : OL := fun ds G Q => ∃ (zs : List Str) (vs : List D), ds = [.tupp (pairsD zs vs)] ∧ zs.length = vs.length ∧ zs.Nodup ∧ Q (.dic (zs.map Sum.inr) vs) G
theorem RVs.uncons {G : GH} {H : Hp} {d : D} {ds : List D} {us : List V} (r : RVs T G H (d :: ds) us) : ∃ v vs, us = v :: vs ∧ RV T G H d v ∧ RVs T G H ds vs := by
  cases r with
  | cons a b => exact ⟨_, _, rfl, a, b⟩
theorem pairs_rv {G : GH} {H : Hp} : ∀ {zs : List Str} {vs : List D} {us : List V}, zs.length = vs.length → RVs T G H (pairsD zs vs) us → ∃ (ps : List Addr) (ws : List V), us = ps.map V.ref ∧ RVs T G H vs ws ∧
    Paired (fun p kv => SqT T.K H p [kV kv.1, kv.2]) ps ((zs.map (Sum.inr : Str → Key)).zip ws)
  | [], [], us, _, r => by
    have r : RVs T G H [] us := r
    cases r
    exact ⟨[], [], rfl, .nil, .nil⟩
  | [], _ :: _, _, h, _ => nomatch h
  | _ :: _, [], _, h, _ => nomatch h
  | z :: zs, v :: vs, us, h, r => by
    obtain ⟨w, us', rfl, r0, t⟩ := RVs.uncons (show RVs T G H (D.tup [.str z, v] :: pairsD zs vs) us from r)
    obtain ⟨ps, ws, rfl, rw', pr⟩ := pairs_rv (Nat.succ.inj h) t
    cases r0 with
    | @tup a xs _ hx l rr =>
      obtain ⟨w1, us1, rfl, r1, rr⟩ := RVs.uncons rr
      obtain ⟨w2, us2, rfl, r2, rr⟩ := RVs.uncons rr
      cases rr
      cases r1
      exact ⟨a :: ps, w2 :: ws, rfl, .cons r2 rw', .cons hx.sq pr⟩
theorem mergeK_nd : ∀ (kvs acc : List (Key × V)), ((acc ++ kvs).map (·.1)).Nodup → mergeK acc kvs = acc ++ kvs
  | [], acc, _ => by unfold mergeK; simp
  | kv :: kvs, acc, h => by
    have no : kv.1 ∉ acc.map (·.1) := by
      rw [List.map_append, List.map_cons] at h
      intro hm
      exact (List.nodup_append.mp h).2.2 _ hm _ List.mem_cons_self rfl
    have e : putK acc kv.1 kv.2 = acc ++ [kv] := by
      unfold putK
      have : (acc.any fun q => decide (q.1 = kv.1)) = false := by
        refine Bool.eq_false_iff.mpr fun h => ?_
        obtain ⟨q, hq, e⟩ := List.any_eq_true.mp h
        exact no (List.mem_map.mpr ⟨q, hq, of_decide_eq_true e⟩)
      simp [this]
    have : mergeK acc (kv :: kvs) = mergeK (putK acc kv.1 kv.2) kvs := rfl
    rw [this, e, mergeK_nd kvs (acc ++ [kv]) (by simpa using h)]
    simp
theorem ci_dictT {K : PySem.W.Frag} (hK : K = T.K) : CallI T (rDictT K) dictTO := by
  intro G H ds vs Q Qv rh r q k
  subst hK
  obtain ⟨zs, ys, e, hl, nd, q⟩ := q
  subst e
  rcases r with _ | ⟨rx, _ | ⟨_, _⟩⟩
  cases rx with
  | tupp g hx hd ni l r =>
    obtain ⟨ps, ws, e, rw', pr⟩ := pairs_rv hl r
    subst e
    refine ⟨_, _, ps, _, rfl, hx, hd, pr, fun p np => ?_⟩
    have lw := rw'.length
    have em : mergeK [] ((zs.map (Sum.inr : Str → Key)).zip ws) = (zs.map (Sum.inr : Str → Key)).zip ws := by
      rw [mergeK_nd _ [] ?_, List.nil_append]
      rw [List.nil_append, List.map_fst_zip (by rw [List.length_map]; omega)]
      exact List.Pairwise.map _ (fun a b h e => h (Sum.inr.inj e)) nd
    rw [em]
    exact k _ _ G _ (.dic (rh.fresh np) upd_same rfl (by rw [List.length_map]; omega) (rw'.keep (Keep.new np))) (rh.new np) (Keep.new np) q
theorem q_dictT (hc : X.calm = true) (hK : X.K = T.K) (hm : X.mg "dict" = none) (ha : QA T X W (e :: es) u) (hg : Gl X "dict" := by rfl) (he : starEach (e :: es) X.env = (false, eval e X.env) :: starEach es X.env := by rfl) (hpl : (backTo pos (starEach es X.env)).any (·.1) = false := by rfl) :
    QE T X W (.Call (.Name "dict" p) (e :: es) [] pos) (wCall dictTO u) := q_callTy (call_dictT hc) (ci_dictT hK) hg hm rfl ha (by decide) (by decide) he hpl
end
end DL
set_option Elab.async false
set_option linter.all false
set_option maxRecDepth 100000
set_option maxHeartbeats 4000000
/-! what readings of such tuples say -/
namespace DL
open PySem PySem.Spec PyProof.Rows L2
section
variable {ds : List D} {y : D} {G : GH} {Q : DK}
theorem wk_t : wk (.tup ds) = .tup ds := rfl
theorem wk_l : wk (.lst ds) = .lst ds := rfl
theorem eqO_p : eqO (.tupp ds) y G Q = eqG (.tupp ds) y G Q := rfl
theorem neO_p : neO (.tupp ds) y G Q = neG (.tupp ds) y G Q := rfl
theorem topD_p : topD G (.tupp ds) = .tupp ds := rfl
theorem tyD_p : tyD G (.tupp ds) = some "tuple" := rfl
end
/-! repr of data, or of a list that may change -/
def reprLO : OL := fun ds G Q => match ds with
  | [x] => showD (topD G x) = true ∧ (pyR (topD G x)).showable = true ∧ (pyR (topD G x)).shown.length ≤ sizeLine ∧ (pyR (topD G x)).depth ≤ 60 ∧ Q (.str (pyR (topD G x)).shown) G
  | _ => False
theorem ci_reprL {T : Tb} : CallI T (rRepr T) reprLO := by
  intro G H ds vs Q Qv rh r q k
  rcases r with _ | ⟨rx, _ | ⟨_, _⟩⟩
  · exact False.elim q
  · rename_i x v
    obtain ⟨h1, h2, h3, h4, q⟩ := q
    have key : topD G x = x → rRepr T [v] H Qv := fun e => by
      rw [e] at h1 h2 h3 h4 q
      exact ⟨_, _, G, rfl, rx, rh, h1, h2, h3, h4, k _ _ G H (.str _) rh (Keep.refl _ _) q⟩
    cases rx with
    | ref a =>
      rcases topD_cases G a with e | ⟨ds, g, e⟩
      · exact key e
      · rw [e] at h1 h2 h3 h4 q
        obtain ⟨xs, hx, hl, rr⟩ := rh a _ g
        exact ⟨_, _, gdel G a, rfl, .lst gdel_same hx hl (rr.keep Keep.freeze), rh.freeze a, h1, h2, h3, h4, k _ _ G H (.str _) rh (Keep.refl _ _) q⟩
    | _ => exact key rfl
  · exact False.elim q
theorem reprL_1 {x : D} {G : GH} {Q : DK} : reprLO [x] G Q = (showD (topD G x) = true ∧ (pyR (topD G x)).showable = true ∧ (pyR (topD G x)).shown.length ≤ sizeLine ∧ (pyR (topD G x)).depth ≤ 60 ∧ Q (.str (pyR (topD G x)).shown) G) := rfl
section
variable {T : Tb} {X : Cx} {W : WX} {e : Expr} {es : List Expr} {u : TAd} {p pos : Pos}
theorem q_reprL (hK : X.K = T.K) (hgd : X.A.guards = some []) (hu : X.A.units + 64 < cLine) (hm : X.mg "repr" = none) (ha : QA T X W (e :: es) u) (hg : Gl X "repr" := by rfl) (he : starEach (e :: es) X.env = (false, eval e X.env) :: starEach es X.env := by rfl) (hpl : (backTo pos (starEach es X.env)).any (·.1) = false := by rfl) :
    QE T X W (.Call (.Name "repr" p) (e :: es) [] pos) (wCall reprLO u) := q_callB (call_reprD hK hgd hu) ci_reprL hg hm rfl ha (by decide) (by decide) he hpl
end
end DL
set_option Elab.async false
set_option linter.all false
set_option maxRecDepth 100000
set_option maxHeartbeats 4000000
namespace KS
open PySem PySem.Spec PyProof.Rows L2 DL KL
abbrev nC : Nat := 1
def flds : Nat → List Str := fun _ => ["size", "tables", "names", "_columns", "_key_counts", "empty", "many"]
abbrev sub : Nat → Nat → Bool := fun _ _ => true
/-- a table: its name, its columns, how many of them are its key -/
structure Tab where
  nm : Str
  cols : List Str
  keys : Nat
def NameOk (z : Str) : Prop := nameB (.str z) = true ∧ PyData.strOk z = true
structure TabOk (n : Nat) (t : Tab) : Prop where
  nm : NameOk t.nm
  cols : ∀ c ∈ t.cols, NameOk c
  lo : 1 ≤ t.cols.length
  hi : t.cols.length ≤ 3
  nd : t.cols.Nodup
  klo : 1 ≤ t.keys
  khi : t.keys ≤ t.cols.length
structure SetOk (n : Nat) (ts : List Tab) : Prop where
  lo : 2 ≤ n
  hi : n ≤ 4
  tlo : 1 ≤ ts.length
  thi : ts.length ≤ 3
  ok : ∀ t ∈ ts, TabOk n t
  nd : (ts.map (·.nm)).Nodup
/-- .. of which others can be made -/
structure WorldOk (n : Nat) (ts : List Tab) : Prop extends SetOk n ts where
  up : ∀ t ∈ ts, (n = 3 → t.keys ≠ 3) ∧ (n = 4 → 1 + t.keys % t.cols.length ≠ 3)
  nm : ∀ t ∈ ts, t.nm ∈ (["t", "u", "set", "old", "ab", "k"] : List Str)
  cl : ∀ t ∈ ts, ∀ c ∈ t.cols, c ∈ (["k", "v", "w", "row", "new", "t"] : List Str)
def colsD (t : Tab) : D := .tupp (t.cols.map D.str)
def tabD (t : Tab) : D := .tup [.str t.nm, colsD t, .int t.keys]
def tabsD (ts : List Tab) : List D := ts.map tabD
def namesD (ts : List Tab) : List D := ts.map fun t => .str t.nm
def manyT (n : Nat) (t : Tab) : Int := (1 + (n : Int) ^ (t.cols.length - t.keys)) ^ (n ^ t.keys)
def many (n : Nat) (ts : List Tab) : Int := ts.foldl (fun a t => a * manyT n t) 1
def keysK (ts : List Tab) : List Key := ts.map fun t => .inr t.nm
def emptyD (ts : List Tab) : D := .tup (ts.map fun _ => .tup [])
def schemaV (n : Nat) (ts : List Tab) : List D := [.int n, .tup (tabsD ts), .tupp (namesD ts), .dic (keysK ts) (ts.map colsD), .dic (keysK ts) (ts.map fun t => .int t.keys), emptyD ts, .int (many n ts)]
def schemaD (n : Nat) (ts : List Tab) : D := .obj 0 (schemaV n ts)
/-- the tables, handed as a tuple or a list -/
def Handed (x : D) (G : GH) (ts : List Tab) : Prop := x = .tup (tabsD ts) ∨ ∃ b, x = .ref b ∧ G b = some (.lst (tabsD ts))
def sp_check_different : DSp := fun ds G Q _ => ∃ zs : List Str, ds = [.lst (zs.map D.str)] ∧ zs.Nodup ∧ zs.length ≤ 3 ∧ (∀ z ∈ zs, PyData.strOk z = true) ∧ Q .non G
def sp_describes_table : DSp := fun ds G Q _ => ∃ n t, ds = [tabD t] ∧ TabOk n t ∧ Q (.bl true) G
def sp_check_tables : DSp := fun ds G Q _ => ∃ x n ts, ds = [x] ∧ Handed x G ts ∧ SetOk n ts ∧ Q .non G
def sp_power : DSp := fun ds G Q _ => ∃ b k : Nat, ds = [.int b, .int k] ∧ b ≤ 1000 ∧ k ≤ 64 ∧ Q (.int ((b : Int) ^ k)) G
def sp_count_databases : DSp := fun ds G Q _ => ∃ (n : Nat) (x : D) (ts : List Tab), ds = [.int n, x] ∧ Handed x G ts ∧ SetOk n ts ∧ Q (.int (many n ts)) G
def sp_Schema___init__ : DSp := fun ds G Q _ => ∃ (a : Addr) (n : Nat) (x : D) (ts : List Tab), ds = [.ref a, .int n, x] ∧ G a = some (.ins 0 []) ∧ Handed x G ts ∧ SetOk n ts ∧ Q .non (gset G a (.ins 0 (schemaV n ts)))
def sp_Schema___len__ : DSp := fun ds G Q _ => ∃ n ts, ds = [schemaD n ts] ∧ Q (.int ts.length) G
def sp_Schema___contains__ : DSp := fun ds G Q _ => ∃ n ts y a, ds = [schemaD n ts, y] ∧ SetOk n ts ∧ AskOk G y a ∧ Q (.bl ((ts.map (·.nm)).any (isTx y))) G
def sp_Schema_columns : DSp := fun ds G Q _ => ∃ n ts t, ds = [schemaD n ts, .str t.nm] ∧ SetOk n ts ∧ t ∈ ts ∧ Q (colsD t) G
def sp_Schema_key_count : DSp := fun ds G Q _ => ∃ n ts t, ds = [schemaD n ts, .str t.nm] ∧ SetOk n ts ∧ t ∈ ts ∧ Q (.int t.keys) G
def sp_is_integer : DSp := KL.sp_is_integer
def sp_is_name : DSp := KL.sp_is_name
def sp_law_bag : DSp := KL.sp_law_bag
def sp_law_take : DSp := KL.sp_law_take
def sp_law_alike : DSp := KL.sp_law_alike
/-- one of some things -/
def sp_law_one : DSp := fun ds G Q _ => ∃ a b xs, ds = [.ref a, .lst xs] ∧ G a = some (.lst b) ∧ BagOk b ∧ 0 < xs.length ∧ xs.length ≤ sizeLine ∧ ∀ d b', d ∈ xs → BagOk b' → Q d (gset G a (.lst b'))
def shapes : List Str := ["2 11", "2 21 11", "2 22", "3 21", "2 31 11", "2 11 21 11", "4 11", "3 32 11 22", "2 33 21 32", "4 31 22"]
def worldD (n : Nat) (ts : List Tab) : D := .dic [.inr "size", .inr "tables", .inr "rules", .inr "pairs"] [.int n, .lst (tabsD ts), .lst [], .lst []]

def sp_law_shapes : DSp := fun ds G Q _ => ds = [] ∧ Q (.lst (shapes.map D.str)) G
def t_check_different : TSd :=
  (wFor (wiEnum (wCons (wVar 0) wNil)) (gdTupN [1, 2]) (wIfS (wTest (wOp (inDO false) (wVar 2) (wSl slO (wVar 0) wNoPart (wPart (wVar 1))))) wNeverS wNext))
def t_describes_table : TSd :=
  (wSeq (wIfS (wOrT (wNotT (wTest (wCall (isiO "tuple") (wCons (wVar 0) (wCons (wC (.ty "tuple")) wNil))))) (wTest (wOp neO (wCall lenO (wCons (wVar 0) wNil)) (wC (.int 3))))) (wRet (wC (.bl false))) wNext)
  (wSeq (wAsg (wVar 0) (gdTupN [1, 2, 3]))
  (wSeq (wIfS (wOrT (wNotT (wTest (wFn sp_is_name (wCons (wVar 1) wNil)))) (wOrT (wNotT (wTest (wCall (isiO "tuple") (wCons (wWk (wVar 2)) (wCons (wC (.ty "tuple")) wNil))))) (wNotT (wTest (wChain leO leO (wC (.int 1)) (wCall lenO (wCons (wWk (wVar 2)) wNil)) (wC (.int 3))))))) (wRet (wC (.bl false))) wNext)
  (wSeq (wIfS (wOrT (wNotT (wTest (wCall (allO fun bs => bs.all id) (wCons (wLc (wiTup (wWk (wVar 2))) (gdName 4) wYes (wFn sp_is_name (wCons (wVar 4) wNil)) [4]) wNil)))) (wTest (wOp ltO (wLenSet (wWk (wVar 2))) (wCall lenO (wCons (wWk (wVar 2)) wNil))))) (wRet (wC (.bl false))) wNext)
  (wRet (wAnd (wFn sp_is_integer (wCons (wVar 3) wNil)) (wChain leO leO (wC (.int 1)) (wVar 3) (wCall lenO (wCons (wWk (wVar 2)) wNil)))))))))
def t_check_tables : TSd :=
  (wSeq (wFor (wiEnumS (wCons (wVar 0) wNil)) (gdTupN [1, 2]) (wIfS (wNotT (wTest (wFn sp_describes_table (wCons (wVar 2) wNil)))) wNeverS wNext))
  (wExpr (wFn sp_check_different (wCons (wLc (wiSeq (wVar 0)) (gdName 2) wYes (wOp ixO (wVar 2) (wC (.int 0))) [2]) wNil))))
def t_power : TSd :=
  (wSeq (wSet 2 (wC (.int 1)))
  (wSeq (wFor (wiRange (wCons (wVar 1) wNil)) (gdName 3) (wAug 2 augMul (wVar 0)))
  (wRet (wVar 2))))
def t_count_databases : TSd :=
  (wSeq (wSet 2 (wC (.int 1)))
  (wSeq (wFor (wiSeq (wVar 1)) (gdTupN [3, 4, 5]) (wAug 2 augMulW (wFn sp_power (wCons (wOp addO (wC (.int 1)) (wFn sp_power (wCons (wVar 0) (wCons (wOp subO (wCall lenO (wCons (wWk (wVar 4)) wNil)) (wVar 5)) wNil)))) (wCons (wFn sp_power (wCons (wVar 0) (wCons (wVar 5) wNil))) wNil)))))
  (wRet (wVar 2))))
def t_Schema___init__ : TSd :=
  (wSeq (wIfS (wOrT (wNotT (wTest (wFn sp_is_integer (wCons (wVar 1) wNil)))) (wNotT (wTest (wChain leO leO (wC (.int 2)) (wVar 1) (wC (.int 4)))))) wNeverS wNext)
  (wSeq (wIfS (wOrT (wNotT (wTest (wIsiT ["list", "tuple"] (wVar 2)))) (wNotT (wTest (wChain leO leO (wC (.int 1)) (wCall lenO (wCons (wVar 2) wNil)) (wC (.int 3)))))) wNeverS wNext)
  (wSeq (wExpr (wFn sp_check_tables (wCons (wVar 2) wNil)))
  (wSeq (wSetF nC flds "size" (wVar 0) (wVar 1))
  (wSeq (wSetF nC flds "tables" (wVar 0) (wCall tupleO (wCons (wVar 2) wNil)))
  (wSeq (wSetF nC flds "names" (wVar 0) (wCall tuplePO (wCons (wLc (wiSeq (wVar 2)) (gdName 3) wYes (wOp ixO (wVar 3) (wC (.int 0))) [3]) wNil)))
  (wSeq (wSetF nC flds "_columns" (wVar 0) (wDc (wiSeq (wVar 2)) (gdName 3) wYes (wOp ixO (wVar 3) (wC (.int 0))) (wOp ixO (wVar 3) (wC (.int 1))) [3]))
  (wSeq (wSetF nC flds "_key_counts" (wVar 0) (wDc (wiSeq (wVar 2)) (gdName 3) wYes (wOp ixO (wVar 3) (wC (.int 0))) (wOp ixO (wVar 3) (wC (.int 2))) [3]))
  (wSeq (wSetF nC flds "empty" (wVar 0) (wCall tupleO (wCons (wLc (wiSeq (wVar 2)) (gdName 4) wYes (wTup wNil) [4]) wNil)))
  (wSetF nC flds "many" (wVar 0) (wFn sp_count_databases (wCons (wVar 1) (wCons (wVar 2) wNil)))))))))))))
def t_Schema___len__ : TSd :=
  (wRet (wCall lenO (wCons (wFld nC flds "tables" (wVar 0)) wNil)))
def t_Schema___contains__ : TSd :=
  (wRet (wAnd (wFn sp_is_name (wCons (wVar 1) wNil)) (wIn false (wVar 1) (wFld nC flds "_columns" (wVar 0)))))
def t_Schema_columns : TSd :=
  (wRet (wGet (wFld nC flds "_columns" (wVar 0)) (wVar 1)))
def t_Schema_key_count : TSd :=
  (wRet (wGet (wFld nC flds "_key_counts" (wVar 0)) (wVar 1)))
def t_law_one : TSd :=
  (wRet (wOp ixO (wVar 1) (wFn sp_law_take (wCons (wVar 0) (wCons (wCall lenO (wCons (wVar 1) wNil)) wNil)))))
def t_law_shapes : TSd :=
  (wSeq (wSet 0 (wLst (wCons (wC (.str "2 11")) (wCons (wC (.str "2 21 11")) (wCons (wC (.str "2 22")) (wCons (wC (.str "3 21")) (wCons (wC (.str "2 31 11")) (wCons (wC (.str "2 11 21 11")) (wCons (wC (.str "4 11")) (wCons (wC (.str "3 32 11 22")) wNil))))))))))
  (wRet (wOp addO (wVar 0) (wLst (wCons (wC (.str "2 33 21 32")) (wCons (wC (.str "4 31 22")) wNil))))))
abbrev t_is_integer : TSd := KL.t_is_integer
abbrev t_is_name : TSd := KL.t_is_name
abbrev t_law_take : TSd := KL.t_law_take
local macro_rules | `(tactic| walk_at "rd") => `(tactic| simp only [wWk, wk_p, wk_t, wk_l, D.tupp.injEq, eqO_p, neO_p, topD_p, tyD_p, wTupP, wTix, wLix, wDGet2, wSeq, wRet, wRetN, wNext, wSet, wIfS, wTest, wOp, wC, wVar, wCall, wCons, wNil, wAnd, wOr, wNot, wAndT, wOrT, wNotT, wAugI, wAug, augMul, augMulW, wSetI, wChain, wRaise, wTryAs, wFn, wLstM, wLst, wTup, wSl, wPart, wNoPart, wMS, wYes, wPar, wAsg, wDisp, wPairs, wiRange, wiEnum, wiEnumS, wiSeq, exists_eq', exists_eq, List.cons.injEq, wipeE, gdName, wExpr, wLc, wDc, wiStr, wiLst, wiTup, itO_l, itO_f, itO_r, itS_t, itS_l, itS_r, inSO_1, notInSO_1, isBO_1, notBO_1, wIf, wFor, wIsiT, wFld, wGet, wRev, revO_t, revO_l, wFrzL, wFrz, frzL_l, frzL_r, frzO_r, wML, wMeth, wSetF, wLenSet, gdTupN_2, gdTupN_3, gdPat_in, iB_tt, iB_lt, iB_tl, iB_ll, wh_int, decide_true, decide_false, Bool.not_eq_true, Bool.and_self, Bool.and_true, Bool.true_and,
  lk, startD, List.map_cons, List.map_nil, List.length_cons, List.length_nil, List.replicate, List.cons_append, List.nil_append, Option.some.injEq, DO.lst.injEq, DO.ins.injEq, exists_eq_left', exists_eq_left, exists_and_left, D.bl.injEq, D.int.injEq, D.str.injEq, D.ref.injEq, D.ty.injEq, D.tup.injEq, D.lst.injEq, List.set_cons_zero, List.set_cons_succ, Nat.sub_self, Nat.reduceAdd, Nat.reduceSub, true_and, and_true, if_true, if_false, ite_true, ite_false, Bool.false_eq_true, reduceIte, Bool.not_true, Bool.not_false,
  int0_ii, intO_ii, addO_ii, addO_ss, addO_tt, addO_ll, mulDO_ii, mulDO_li, mulDO_ti, mulDO_si, ixO_t, ixO_l, ixO_f, ixO_s, ixO_r, negO_c, lenO_1, lenO1_s, lenO1_t, lenO1_l, lenO1_f, absO_i, allO_1, isiO_1, reprO_1, joinO_1, appendO_1, slO_t, slO_l, slO_f, slO_s, setO_ri, augAt_ri, topD_i, topD_s, topD_b, topD_n, topD_t, topD_l, topD_f, topD_d, okD_i, okD_b, okD_n, eqD_ii, tyD_n, tyD_b, tyD_i, tyD_s, tyD_t, tyD_l, tyD_f, tyD_d, eqO_ss, eqO_i, eqO_b, eqO_l, eqO_t, eqO_r, neO_ss, neO_i, neO_b, neO_l, neO_t, neO_r, eqG, neG, atI_0, atI_1, atI_2, atI_3, ixN_40, ixN_41, ixN_42, Int.reduceLE, Int.reduceLT, gset_same, gset_gset, decide_eq_true_eq])



theorem read_is_integer : ∀ (ds : List D) (G : GH) (Q : DK) (Ex : DX), sp_is_integer ds G Q Ex → t_is_integer (endsOf Q Ex) (startD ["thing"] ds) G := KL.read_is_integer
theorem enum_str {zs : List Str} {i : Nat} {d : D} (h : (enumD (zs.map D.str))[i]? = some d) : ∃ z, zs[i]? = some z ∧ d = .tup [.int i, .str z] := by
  obtain ⟨x, hx, e⟩ := enum_get h
  rw [List.getElem?_map] at hx
  cases hz : zs[i]? with
  | none => rw [hz] at hx; cases hx
  | some z =>
    rw [hz] at hx
    cases hx
    exact ⟨z, rfl, e⟩
theorem lt_of_get {α : Type} {l : List α} {i : Nat} {x : α} (h : l[i]? = some x) : i < l.length := (List.getElem?_eq_some_iff.mp h).1
theorem le_sum {n : Nat} : ∀ {l : List Nat}, n ∈ l → n ≤ l.sum
  | x :: l, h => by
    rw [List.sum_cons]
    rcases List.mem_cons.mp h with rfl | h
    · omega
    · have := le_sum h
      omega
theorem ok_strs {zs : List Str} (h : ∀ z ∈ zs, PyData.strOk z = true) : okD (.lst (zs.map D.str)) = true := by
  have a : ∀ x ∈ zs.map D.str, Sm x ((zs.map fun z => z.length).sum) 0 := fun x hx => by
    obtain ⟨z, hz, rfl⟩ := List.mem_map.mp hx
    exact (sm_str (h z hz)).mono (le_sum (List.mem_map.mpr ⟨z, hz, rfl⟩)) (Nat.le_refl _)
  exact (sm_lst a).ok (by decide)
theorem any_eqD_str (z : Str) (zs : List Str) : ((zs.map D.str).any fun d => eqD d (.str z)) = decide (z ∈ zs) := by
  induction zs with
  | nil => simp
  | cons y r ih =>
    rw [List.map_cons, List.any_cons, ih, eqD_ss]
    by_cases e : y = z
    · subst e; simp
    · rw [decide_eq_false e, Bool.false_or]
      have : (z ∈ y :: r) ↔ z ∈ r := by
        constructor
        · intro h
          rcases List.mem_cons.mp h with h | h
          · exact absurd h.symm e
          · exact h
        · exact List.mem_cons_of_mem _
      simp [this]
theorem read_check_different (ds : List D) (G : GH) (Q : DK) (Ex : DX) (h : sp_check_different ds G Q Ex) : t_check_different (endsOf Q Ex) (startD ["names", "at", "name"] ds) G := by
  obtain ⟨zs, rfl, nd, hl, ok, q⟩ := h
  unfold t_check_different
  walk_at "rd"
  refine wForL_ix (I := fun _ env G' => ∃ x1 x2, env = [some (.lst (zs.map D.str)), x1, x2] ∧ G' = G) ?_ ?_ _ _ ⟨_, _, rfl, rfl⟩
  · rintro env G1 ⟨x1, x2, rfl, rfl⟩
    exact ⟨trivial, q⟩
  · rintro i d env G1 nx hd ⟨x1, x2, rfl, rfl⟩ hnx
    obtain ⟨z, hz, rfl⟩ := enum_str hd
    have hi := lt_of_get hz
    refine ⟨trivial, _, _, rfl, rfl, ?_⟩
    walk_at "rd"
    have e : DL.cutD (zs.map D.str) none (some (i : Int)) = (zs.take i).map D.str := by
      rw [cut_to (by rw [List.length_map]; omega), List.map_take]
    rw [e]
    refine ⟨_, rfl, (sm_str (ok z (List.mem_of_getElem? hz))).ok (by decide), ok_strs fun y hy => ok y (List.mem_of_mem_take hy), ?_⟩
    walk_at "rd"
    have no : z ∉ zs.take i := fun hm => by
      obtain ⟨j, hj, ej⟩ := List.getElem_of_mem hm
      rw [List.length_take] at hj
      rw [List.getElem_take] at ej
      obtain ⟨hi', ei⟩ := List.getElem?_eq_some_iff.mp hz
      exact List.pairwise_iff_getElem.mp nd j i (by omega) hi' (by omega) (ej.trans ei.symm)
    rw [any_eqD_str, decide_eq_false no]
    walk_at "rd"
    exact hnx _ _ ⟨_, _, rfl, rfl⟩

theorem tabs_get {ts : List Tab} {i : Nat} {d : D} (h : (tabsD ts)[i]? = some d) : ∃ t, ts[i]? = some t ∧ d = tabD t := by
  unfold tabsD at h
  rw [List.getElem?_map] at h
  cases hz : ts[i]? with
  | none => rw [hz] at h; cases h
  | some z =>
    rw [hz] at h
    cases h
    exact ⟨z, rfl, rfl⟩
theorem tabs_mem {ts : List Tab} {d : D} (h : d ∈ tabsD ts) : ∃ t ∈ ts, d = tabD t := by
  obtain ⟨t, ht, e⟩ := List.mem_map.mp h
  exact ⟨t, ht, e.symm⟩
theorem name_len {z : Str} (h : NameOk z) : 1 ≤ z.length ∧ z.length ≤ 8 := by
  have a : (decide (1 ≤ z.length) && (decide (z.length ≤ 8) && z.cps.toList.all fun c => decide (c ∈ letters.cps.toList))) = true := h.1
  obtain ⟨a, b⟩ := Bool.and_eq_true_iff.mp a
  obtain ⟨b, c⟩ := Bool.and_eq_true_iff.mp b
  exact ⟨of_decide_eq_true a, of_decide_eq_true b⟩
theorem ask_str {z : Str} (G : GH) (h : NameOk z) : AskOk G (.str z) "str" := ⟨rfl, fun y e => by
  cases e
  have := (name_len h).2
  exact ⟨by rw [sizeLine_eq]; omega, h.2⟩⟩
theorem ask_int (G : GH) (i : Int) : AskOk G (.int i) "int" := ⟨rfl, fun y e => nomatch e⟩
theorem strs_map : ∀ zs : List Str, strsD (zs.map D.str) = some zs
  | [] => rfl
  | z :: zs => by
    show (strsD (zs.map D.str)).map (z :: ·) = _
    rw [strs_map zs]
    rfl
theorem all_true {α : Type} {f : α → Bool} {xs : List α} (h : ∀ x ∈ xs, f x = true) : (xs.map f).all id = true := by
  rw [all_id]
  exact List.all_eq_true.mpr h
theorem nod_cnt {zs : List Str} (h : zs.Nodup) : cntS zs zs.length = zs.length := cntS_nodup h _ (Nat.le_refl _)
theorem read_describes_table (ds : List D) (G : GH) (Q : DK) (Ex : DX) (h : sp_describes_table ds G Q Ex) : t_describes_table (endsOf Q Ex) (startD ["thing", "name", "columns", "keys", "column"] ds) G := by
  obtain ⟨n, t, rfl, ok, q⟩ := h
  have lo := ok.lo
  have hi := ok.hi
  have klo := ok.klo
  have khi := ok.khi
  unfold t_describes_table tabD colsD
  walk_at "rd"
  rw [if_neg (by decide)]
  refine sp_name_ok (ask_str G ok.nm) ?_
  refine ⟨_, rfl, ?_⟩
  rw [ok.nm.1]
  walk_at "rd"
  rw [List.length_map, if_pos (by omega), if_neg (by rw [decide_eq_true (by omega)]; decide)]
  intro p np
  refine lc_each (fun _ => .bl true) (fun _ => trivial) (fun d hd acc k hk => ?_) ?_
  · obtain ⟨c, hc, rfl⟩ := List.mem_map.mp hd
    walk_at "rd"
    refine sp_name_ok (ask_str _ (ok.cols c hc)) ?_
    rw [(ok.cols c hc).1]
    exact ⟨gset_same, by rw [gset_gset]; exact hk⟩
  · refine ⟨_, blsD_map (fun _ => true) _, ?_⟩
    rw [all_true (fun _ _ => rfl)]
    simp only [gdel_gset np]
    walk_at "rd"
    refine ⟨_, strs_map _, by omega, ?_⟩
    rw [nod_cnt ok.nd, if_neg (by omega)]
    refine ⟨_, _, rfl, ask_int G _, ?_⟩
    walk_at "rd"
    rw [if_pos (by omega), decide_eq_true (by omega)]
    exact q
/-- what holds a loop up, stays -/
structure Stays (stay : GH → Prop) (G : GH) : Prop where
  at_ : stay G
  new : ∀ p o, G p = none → stay (gset G p o)
theorem handed_it {x : D} {G : GH} {ts : List Tab} {R : List D → (GH → Prop) → GH → Prop} (h : Handed x G ts) (k : ∀ stay, Stays stay G → R (tabsD ts) stay G) : itS x G R := by
  rcases h with rfl | ⟨b, rfl, g⟩
  · exact k always ⟨trivial, fun _ _ _ => trivial⟩
  · exact ⟨_, g, k _ ⟨g, fun p o np => by
      have : b ≠ p := by rintro rfl; rw [g] at np; cases np
      rw [gset_ne this]
      exact g⟩⟩
theorem Handed.new {x : D} {G : GH} {ts : List Tab} (h : Handed x G ts) {p : Addr} {o : DO} (np : G p = none) : Handed x (gset G p o) ts := by
  rcases h with rfl | ⟨b, rfl, g⟩
  · exact .inl rfl
  · refine .inr ⟨b, rfl, ?_⟩
    have : b ≠ p := by rintro rfl; rw [g] at np; cases np
    rw [gset_ne this]
    exact g
theorem enum_tab {ts : List Tab} {i : Nat} {d : D} (h : (enumD (tabsD ts))[i]? = some d) : ∃ t, ts[i]? = some t ∧ d = .tup [.int i, tabD t] := by
  obtain ⟨x, hx, e⟩ := enum_get h
  obtain ⟨t, ht, rfl⟩ := tabs_get hx
  exact ⟨t, ht, e⟩
theorem strOk_name {z : Str} (h : NameOk z) : PyData.strOk z = true := h.2
theorem read_check_tables (ds : List D) (G : GH) (Q : DK) (Ex : DX) (h : sp_check_tables ds G Q Ex) : t_check_tables (endsOf Q Ex) (startD ["tables", "at", "table"] ds) G := by
  obtain ⟨x, n, ts, rfl, hx, ok, q⟩ := h
  unfold t_check_tables
  walk_at "rd"
  refine handed_it hx fun stay st => ?_
  refine wForL_ix (I := fun _ env G' => ∃ x1 x2, env = [some x, x1, x2] ∧ G' = G) ?_ ?_ _ _ ⟨_, _, rfl, rfl⟩
  · rintro env G1 ⟨x1, x2, rfl, rfl⟩
    refine ⟨st.at_, ?_⟩
    walk_at "rd"
    refine handed_it hx fun stay2 st2 => fun p np => ?_
    refine lc_each (fun d => match d with | .tup (y :: _) => y | d => d) (fun acc => st2.new _ _ np) (fun d hd acc k hk => ?_) ?_
    · obtain ⟨t, ht, rfl⟩ := tabs_mem hd
      unfold tabD
      walk_at "rd"
      exact hk
    · simp only [gdel_gset np]
      refine ⟨ts.map (·.nm), ?_, ok.nd, by rw [List.length_map]; exact ok.thi, fun z hz => ?_, q⟩
      · unfold tabsD
        rw [List.map_map, List.map_map]
        rfl
      · obtain ⟨t, ht, rfl⟩ := List.mem_map.mp hz
        exact (ok.ok t ht).nm.2
  · rintro i d env G1 nx hd ⟨x1, x2, rfl, rfl⟩ hnx
    obtain ⟨t, ht, rfl⟩ := enum_tab hd
    refine ⟨st.at_, ?_⟩
    walk_at "rd"
    refine ⟨n, t, rfl, ok.ok t (List.mem_of_getElem? ht), ?_⟩
    walk_at "rd"
    exact hnx _ _ ⟨_, _, rfl, rfl⟩
theorem read_power (ds : List D) (G : GH) (Q : DK) (Ex : DX) (h : sp_power ds G Q Ex) : t_power (endsOf Q Ex) (startD ["base", "times", "result", "_"] ds) G := by
  obtain ⟨b, k, rfl, hb, hk, q⟩ := h
  unfold t_power
  walk_at "rd"
  refine ⟨by omega, by omega, ?_⟩
  refine wForL_ix (I := fun i env G' => ∃ x3, env = [some (.int b), some (.int k), some (.int ((b : Int) ^ i)), x3] ∧ G' = G) ?_ ?_ _ _ ⟨_, rfl, rfl⟩
  · rintro env G1 ⟨x3, rfl, rfl⟩
    refine ⟨trivial, ?_⟩
    walk_at "rd"
    rw [rangeD_len]
    exact q
  · rintro i d env G1 nx hd ⟨x3, rfl, rfl⟩ hnx
    refine ⟨trivial, ?_⟩
    walk_at "rd"
    exact ⟨.inr ⟨by omega, by omega⟩, hnx _ _ ⟨_, rfl, rfl⟩⟩



theorem small_many : ∀ n ∈ [2, 3, 4], ∀ c ∈ [1, 2, 3], ∀ k ∈ [1, 2, 3], k ≤ c → 1 + n ^ (c - k) ≤ 1000 ∧ n ^ k ≤ 64 ∧ (1 + n ^ (c - k)) ^ (n ^ k) ≤ 2 ^ 64 := by decide +kernel
theorem tab_small {n : Nat} {t : Tab} (lo : 2 ≤ n) (hi : n ≤ 4) (ok : TabOk n t) : 1 + n ^ (t.cols.length - t.keys) ≤ 1000 ∧ n ^ t.keys ≤ 64 ∧ (1 + n ^ (t.cols.length - t.keys)) ^ (n ^ t.keys) ≤ 2 ^ 64 := by
  have a1 := ok.lo
  have a2 := ok.hi
  have a3 := ok.klo
  have a4 := ok.khi
  refine small_many n ?_ _ ?_ _ ?_ ok.khi
  · have : n = 2 ∨ n = 3 ∨ n = 4 := by omega
    rcases this with rfl | rfl | rfl <;> simp
  · have : t.cols.length = 1 ∨ t.cols.length = 2 ∨ t.cols.length = 3 := by omega
    rcases this with h | h | h <;> rw [h] <;> simp
  · have : t.keys = 1 ∨ t.keys = 2 ∨ t.keys = 3 := by omega
    rcases this with h | h | h <;> rw [h] <;> simp
theorem manyT_nat (n : Nat) (t : Tab) : manyT n t = (((1 + n ^ (t.cols.length - t.keys)) ^ (n ^ t.keys) : Nat) : Int) := by
  unfold manyT
  simp only [Int.natCast_pow, Int.natCast_add, Int.cast_ofNat_Int]
theorem foldl_take {ts : List Tab} {n i : Nat} {t : Tab} (h : ts[i]? = some t) : many n (ts.take (i + 1)) = many n (ts.take i) * manyT n t := by
  unfold many
  obtain ⟨hi, e⟩ := List.getElem?_eq_some_iff.mp h
  rw [List.take_succ, h]
  simp
theorem read_count_databases (ds : List D) (G : GH) (Q : DK) (Ex : DX) (h : sp_count_databases ds G Q Ex) : t_count_databases (endsOf Q Ex) (startD ["size", "tables", "result", "_", "columns", "keys"] ds) G := by
  obtain ⟨n, x, ts, rfl, hx, ok, q⟩ := h
  unfold t_count_databases
  walk_at "rd"
  refine handed_it hx fun stay st => ?_
  refine wForL_ix (I := fun i env G' => ∃ x3 x4 x5, env = [some (.int n), some x, some (.int (many n (ts.take i))), x3, x4, x5] ∧ G' = G ∧ (many n (ts.take i)).natAbs < 2 ^ (66 * i + 1)) ?_ ?_ _ _ ⟨_, _, _, rfl, rfl, by show (1 : Int).natAbs < 2; decide⟩
  · rintro env G1 ⟨x3, x4, x5, rfl, rfl, _⟩
    refine ⟨st.at_, ?_⟩
    walk_at "rd"
    rw [show (tabsD ts).length = ts.length by unfold tabsD; rw [List.length_map], List.take_length]
    exact q
  · rintro i d env G1 nx hd ⟨x3, x4, x5, rfl, rfl, hr⟩ hnx
    obtain ⟨t, ht, rfl⟩ := tabs_get hd
    have tok := ok.ok t (List.mem_of_getElem? ht)
    obtain ⟨b1, b2, b3⟩ := tab_small ok.lo ok.hi tok
    refine ⟨st.at_, ?_⟩
    unfold tabD colsD
    walk_at "rd"
    have h1 := tok.khi
    have h2 := tok.hi
    have h3 := ok.hi
    refine ⟨n, t.cols.length - t.keys, ?_, by omega, by omega, ?_⟩
    · rw [List.length_map, Int.ofNat_sub h1]
    walk_at "rd"
    refine ⟨n, t.keys, rfl, by omega, by omega, ?_⟩
    walk_at "rd"
    refine ⟨1 + n ^ (t.cols.length - t.keys), n ^ t.keys, ?_, b1, b2, ?_⟩
    · rw [Int.natCast_add, Int.natCast_pow, Int.natCast_pow]
      rfl
    walk_at "rd"
    have e : (((1 + n ^ (t.cols.length - t.keys) : Nat) : Int) ^ (n ^ t.keys)) = manyT n t := by rw [manyT_nat, Int.natCast_pow]
    rw [e]
    have e2 : (manyT n t).natAbs < 2 ^ 65 := by
      rw [manyT_nat, Int.natAbs_natCast]
      exact Nat.lt_of_le_of_lt b3 (by decide)
    have hi : i < 3 := Nat.lt_of_lt_of_le (List.getElem?_eq_some_iff.mp ht).1 ok.thi
    have cm : CMulW (many n (ts.take i)) (manyT n t) := wide_mul hr e2 (by omega) (by omega) (by omega)
    refine ⟨.inl cm, hnx _ _ ⟨_, _, _, by rw [foldl_take ht], rfl, ?_⟩⟩
    rw [foldl_take ht, Int.natAbs_mul]
    have : 2 ^ (66 * (i + 1) + 1) = 2 ^ (66 * i + 1) * 2 ^ 66 := by rw [← Nat.pow_add]; congr 1
    rw [this]
    exact Nat.mul_lt_mul'' hr (Nat.lt_trans e2 (by decide))




section
variable {n : Nat} {ts : List Tab} {G : GH} {Q : DK}
theorem fl_size : fldO nC flds "size" (schemaD n ts) G Q ↔ Q (.int n) G := ⟨fun ⟨_, d, e, q⟩ => by cases e; exact q, fun q => ⟨by decide, _, rfl, q⟩⟩
theorem fl_tables : fldO nC flds "tables" (schemaD n ts) G Q ↔ Q (.tup (tabsD ts)) G := ⟨fun ⟨_, d, e, q⟩ => by cases e; exact q, fun q => ⟨by decide, _, rfl, q⟩⟩
theorem fl_names : fldO nC flds "names" (schemaD n ts) G Q ↔ Q (.tupp (namesD ts)) G := ⟨fun ⟨_, d, e, q⟩ => by cases e; exact q, fun q => ⟨by decide, _, rfl, q⟩⟩
theorem fl_columns : fldO nC flds "_columns" (schemaD n ts) G Q ↔ Q (.dic (keysK ts) (ts.map colsD)) G := ⟨fun ⟨_, d, e, q⟩ => by cases e; exact q, fun q => ⟨by decide, _, rfl, q⟩⟩
theorem fl_keys : fldO nC flds "_key_counts" (schemaD n ts) G Q ↔ Q (.dic (keysK ts) (ts.map fun t => .int t.keys)) G := ⟨fun ⟨_, d, e, q⟩ => by cases e; exact q, fun q => ⟨by decide, _, rfl, q⟩⟩
theorem fl_empty : fldO nC flds "empty" (schemaD n ts) G Q ↔ Q (emptyD ts) G := ⟨fun ⟨_, d, e, q⟩ => by cases e; exact q, fun q => ⟨by decide, _, rfl, q⟩⟩
theorem fl_many : fldO nC flds "many" (schemaD n ts) G Q ↔ Q (.int (many n ts)) G := ⟨fun ⟨_, d, e, q⟩ => by cases e; exact q, fun q => ⟨by decide, _, rfl, q⟩⟩
end
theorem look_tab {β : Type} (f : Tab → D) : ∀ {ts : List Tab} {t : Tab}, (ts.map (·.nm)).Nodup → t ∈ ts → lookK (keysK ts) (ts.map f) (.inr t.nm) = some (f t)
  | [], _, _, h => nomatch h
  | u :: ts, t, nd, h => by
    rw [List.map_cons, List.nodup_cons] at nd
    show (if (Sum.inr u.nm : Key) = Sum.inr t.nm then some (f u) else lookK (keysK ts) (ts.map f) (.inr t.nm)) = _
    rcases List.mem_cons.mp h with rfl | h
    · rw [if_pos rfl]
    · rw [if_neg fun e => nd.1 (by rw [Sum.inr.inj e]; exact List.mem_map.mpr ⟨t, h, rfl⟩), look_tab (β := β) f nd.2 h]
theorem look_is (f : Tab → D) (z : Str) : ∀ ts : List Tab, (lookK (keysK ts) (ts.map f) (.inr z)).isSome = decide (z ∈ ts.map (·.nm))
  | [] => by simp [keysK, lookK]
  | u :: ts => by
    show (if (Sum.inr u.nm : Key) = Sum.inr z then some (f u) else lookK (keysK ts) (ts.map f) (.inr z)).isSome = _
    by_cases e : u.nm = z
    · rw [if_pos (by rw [e]), List.map_cons]
      simp [e]
    · rw [if_neg (by simpa using e), look_is f z ts, List.map_cons]
      have : z ≠ u.nm := fun q => e q.symm
      simp [this]
theorem any_isTx (z : Str) (ys : List Str) : ys.any (isTx (.str z)) = decide (z ∈ ys) := by
  induction ys with
  | nil => simp
  | cons y r ih =>
    rw [List.any_cons, ih]
    show (decide (y = z) || _) = _
    by_cases e : y = z
    · subst e; simp
    · have : z ≠ y := fun q => e q.symm
      simp [e, this]
theorem any_noTx {x : D} (h : ∀ z, x ≠ .str z) (ys : List Str) : ys.any (isTx x) = false := by
  induction ys with
  | nil => rfl
  | cons y r ih =>
    rw [List.any_cons, ih, Bool.or_false]
    cases x with
    | str z => exact absurd rfl (h z)
    | _ => rfl
theorem read_Schema_columns (ds : List D) (G : GH) (Q : DK) (Ex : DX) (h : sp_Schema_columns ds G Q Ex) : t_Schema_columns (endsOf Q Ex) (startD ["self", "name"] ds) G := by
  obtain ⟨n, ts, t, rfl, ok, ht, q⟩ := h
  unfold t_Schema_columns
  walk_at "rd"
  rw [fl_columns]
  exact ⟨_, rfl, _, look_tab (β := Nat) colsD ok.nd ht, q⟩
theorem read_Schema_key_count (ds : List D) (G : GH) (Q : DK) (Ex : DX) (h : sp_Schema_key_count ds G Q Ex) : t_Schema_key_count (endsOf Q Ex) (startD ["self", "name"] ds) G := by
  obtain ⟨n, ts, t, rfl, ok, ht, q⟩ := h
  unfold t_Schema_key_count
  walk_at "rd"
  rw [fl_keys]
  exact ⟨_, rfl, _, look_tab (β := Nat) (fun t => .int t.keys) ok.nd ht, q⟩
theorem read_Schema___len__ (ds : List D) (G : GH) (Q : DK) (Ex : DX) (h : sp_Schema___len__ ds G Q Ex) : t_Schema___len__ (endsOf Q Ex) (startD ["self"] ds) G := by
  obtain ⟨n, ts, rfl, q⟩ := h
  unfold t_Schema___len__
  walk_at "rd"
  rw [fl_tables]
  walk_at "rd"
  unfold tabsD
  rw [List.length_map]
  exact q
theorem read_Schema___contains__ (ds : List D) (G : GH) (Q : DK) (Ex : DX) (h : sp_Schema___contains__ ds G Q Ex) : t_Schema___contains__ (endsOf Q Ex) (startD ["self", "x"] ds) G := by
  obtain ⟨n, ts, y, a, rfl, ok, ask, q⟩ := h
  unfold t_Schema___contains__
  walk_at "rd"
  refine sp_name_ok ask ?_
  refine ⟨_, rfl, ?_⟩
  cases y with
  | str z =>
    rw [any_isTx] at q
    cases e : nameB (.str z) with
    | true =>
      walk_at "rd"
      unfold wIn
      walk_at "rd"
      rw [fl_columns]
      refine ⟨_, rfl, _, rfl, ?_⟩
      rw [look_is]
      exact q
    | false =>
      walk_at "rd"
      have no : z ∉ ts.map (·.nm) := fun h => by
        obtain ⟨t, ht, rfl⟩ := List.mem_map.mp h
        have := (ok.ok t ht).nm.1
        rw [e] at this
        cases this
      rw [decide_eq_false no] at q
      exact q
  | _ =>
    rw [any_noTx (fun z h => by cases h)] at q
    exact q
theorem sm_tab {n : Nat} {t : Tab} (ok : TabOk n t) : Sm (tabD t) 200 2 := by
  have h1 := ok.hi
  have h2 := ok.khi
  have l0 := (name_len ok.nm).2
  have a : Sm (colsD t) 27 1 := (sm_tupp (b := 8) (k := 0) fun x hx => by
    obtain ⟨c, hc, rfl⟩ := List.mem_map.mp hx
    exact (sm_str (ok.cols c hc).2).mono (name_len (ok.cols c hc)).2 (Nat.le_refl _)).mono (by rw [List.length_map]; omega) (Nat.le_refl _)
  refine (sm_tup (b := 27) (k := 1) fun x hx => ?_).mono (by show 3 * (27 + 1) ≤ 200; decide) (Nat.le_refl _)
  simp only [List.mem_cons, List.not_mem_nil, or_false] at hx
  rcases hx with rfl | rfl | rfl
  · exact (sm_str ok.nm.2).mono (by omega) (by decide)
  · exact a
  · exact (sm_int (by omega)).mono (by decide) (by decide)
theorem sm_tabs {n : Nat} {ts : List Tab} (ok : SetOk n ts) : Sm (.tup (tabsD ts)) 700 3 := by
  have h := ok.thi
  refine (sm_tup (b := 200) (k := 2) fun x hx => ?_).mono (by unfold tabsD; rw [List.length_map]; omega) (Nat.le_refl _)
  obtain ⟨t, ht, rfl⟩ := tabs_mem hx
  exact sm_tab (ok.ok t ht)
theorem setF_at {f : Str} {a : Addr} {y : D} {vs : List D} {G : GH} {Q : GH → Prop} (g : G a = some (.ins 0 vs)) (hf : (flds 0)[vs.length]? = some f) (q : Q (gset G a (.ins 0 (vs ++ [y])))) : setF nC flds f (.ref a) y G Q :=
  ⟨a, 0, vs, rfl, g, by decide, hf, q⟩
theorem Handed.put {x : D} {G : GH} {ts : List Tab} (h : Handed x G ts) {a : Addr} {vs : List D} {o : DO} (g : G a = some (.ins 0 vs)) : Handed x (gset G a o) ts := by
  rcases h with rfl | ⟨b, rfl, gb⟩
  · exact .inl rfl
  · refine .inr ⟨b, rfl, ?_⟩
    have : b ≠ a := by rintro rfl; rw [g] at gb; cases gb
    rw [gset_ne this]
    exact gb
theorem handed_ty {x : D} {G : GH} {ts : List Tab} (h : Handed x G ts) : ∃ a, tyD G x = some a ∧ (["list", "tuple"].any fun c => instB a c) = true := by
  rcases h with rfl | ⟨b, rfl, g⟩
  · exact ⟨"tuple", rfl, by decide⟩
  · refine ⟨"list", ?_, by decide⟩
    show tyO (G b) = _
    rw [g]
    rfl
theorem handed_len {x : D} {G : GH} {ts : List Tab} {Q : DK} (h : Handed x G ts) (q : Q (.int ts.length) G) : lenO1 (topD G x) G Q := by
  have e : (tabsD ts).length = ts.length := List.length_map _
  rcases h with rfl | ⟨b, rfl, g⟩
  · show Q (.int (tabsD ts).length) G
    rw [e]
    exact q
  · rw [topD_ref g]
    show Q (.int (tabsD ts).length) G
    rw [e]
    exact q
theorem handed_tup {x : D} {G : GH} {ts : List Tab} {Q : DK} (h : Handed x G ts) (l : ts.length ≤ 3) (q : Q (.tup (tabsD ts)) G) : tupleO [x] G Q := by
  have e : (tabsD ts).length ≤ sizeLine := by unfold tabsD; rw [List.length_map, sizeLine_eq]; omega
  rcases h with rfl | ⟨b, rfl, g⟩
  · exact ⟨_, rfl, e, q⟩
  · refine ⟨tabsD ts, ?_, e, q⟩
    show lstAt (G b) = _
    rw [g]
    rfl
def part (i : Nat) (d : D) : D := match d with
  | .tup ds => ds.getD i .non
  | d => d
def keyOf (d : D) : Key := match d with
  | .tup (.str z :: _) => .inr z
  | _ => .inl 0
theorem tup_lst {ds : List D} {G : GH} {Q : DK} (l : ds.length ≤ sizeLine) (q : Q (.tup ds) G) : tupleO [.lst ds] G Q := ⟨_, rfl, l, q⟩
theorem tupp_lst {ds : List D} {G : GH} {Q : DK} (l : ds.length ≤ sizeLine) (ni : NID ds) (q : Q (.tupp ds) G) : tuplePO [.lst ds] G Q := ⟨_, rfl, (fun _ e => nomatch e), ni, l, q⟩
theorem nid_names (ts : List Tab) : NID (namesD ts) := by
  cases ts <;> exact trivial
theorem names_map (ts : List Tab) : (tabsD ts).map (part 0) = namesD ts := by
  unfold tabsD namesD
  rw [List.map_map]
  rfl
theorem keys_map (ts : List Tab) : (tabsD ts).map keyOf = keysK ts := by
  unfold tabsD keysK
  rw [List.map_map]
  rfl
theorem cols_map (ts : List Tab) : (tabsD ts).map (part 1) = ts.map colsD := by
  unfold tabsD
  rw [List.map_map]
  rfl
theorem kc_map (ts : List Tab) : (tabsD ts).map (part 2) = ts.map fun t => .int t.keys := by
  unfold tabsD
  rw [List.map_map]
  rfl
theorem emp_map (ts : List Tab) : (tabsD ts).map (fun _ => D.tup []) = ts.map fun _ => .tup [] := by
  unfold tabsD
  rw [List.map_map]
  rfl
theorem keys_nd {ts : List Tab} (h : (ts.map (·.nm)).Nodup) : (keysK ts).Nodup := by
  have e : keysK ts = (ts.map (·.nm)).map Sum.inr := by unfold keysK; rw [List.map_map]; rfl
  rw [e]
  exact List.Pairwise.map _ (fun a b h e => h (Sum.inr.inj e)) h
theorem read_Schema___init__ (ds : List D) (G : GH) (Q : DK) (Ex : DX) (h : sp_Schema___init__ ds G Q Ex) : t_Schema___init__ (endsOf Q Ex) (startD ["self", "size", "tables", "table", "_"] ds) G := by
  obtain ⟨a, n, x, ts, rfl, g0, hx, ok, q⟩ := h
  have l1 := ok.lo
  have l2 := ok.hi
  have l3 := ok.tlo
  have l4 := ok.thi
  unfold t_Schema___init__
  walk_at "rd"
  refine ⟨_, _, rfl, ask_int G _, ?_⟩
  walk_at "rd"
  rw [if_pos (by omega), decide_eq_true (show (n : Int) ≤ 4 by omega)]
  obtain ⟨ty, h1, h2⟩ := handed_ty hx
  walk_at "rd"
  refine ⟨ty, h1, ?_⟩
  rw [h2]
  walk_at "rd"
  refine handed_len hx ?_
  walk_at "rd"
  rw [if_pos (by omega), decide_eq_true (show ((ts.length : Nat) : Int) ≤ 3 by omega)]
  walk_at "rd"
  refine ⟨x, n, ts, rfl, hx, ok, ?_⟩
  refine setF_at g0 rfl ?_
  have hx1 := hx.put (o := .ins 0 ([] ++ [.int n])) g0
  refine handed_tup hx1 l4 ?_
  refine setF_at gset_same rfl ?_
  walk_at "rd"
  have hx2 := hx.put (o := .ins 0 ([] ++ [.int n] ++ [.tup (tabsD ts)])) g0
  refine handed_it hx2 fun stay st => fun p np => ?_
  refine lc_each (part 0) (fun acc => st.new _ _ np) (fun d hd acc k hk => ?_) ?_
  · obtain ⟨t, ht, rfl⟩ := tabs_mem hd
    unfold tabD
    walk_at "rd"
    exact hk
  · simp only [gdel_gset np]
    have len : ∀ {α : Type} (f : D → α), ((tabsD ts).map f).length = ts.length := fun f => by unfold tabsD; rw [List.length_map, List.length_map]
    refine tupp_lst (by rw [len, sizeLine_eq]; omega) (by rw [names_map]; exact nid_names ts) ?_
    rw [names_map]
    refine setF_at gset_same rfl ?_
    walk_at "rd"
    have hx3 := hx.put (o := .ins 0 ([] ++ [.int n] ++ [.tup (tabsD ts)] ++ [.tupp (namesD ts)])) g0
    refine handed_it hx3 fun stay st => fun p np => ?_
    have nd := keys_nd ok.nd
    refine dc_each keyOf (part 1) (fun ks vs => st.new _ _ np) _ [] [] (by rw [keys_map]; exact nd) (fun d hd ks vs k hk => ?_) ?_
    · obtain ⟨t, ht, rfl⟩ := tabs_mem hd
      unfold tabD
      walk_at "rd"
      exact ⟨_, rfl, hk⟩
    rw [List.nil_append, List.nil_append, keys_map, cols_map]
    simp only [gdel_gset np]
    refine setF_at gset_same rfl ?_
    walk_at "rd"
    have hx4 := hx.put (o := .ins 0 ([] ++ [.int n] ++ [.tup (tabsD ts)] ++ [.tupp (namesD ts)] ++ [.dic (keysK ts) (ts.map colsD)])) g0
    refine handed_it hx4 fun stay st => fun p np => ?_
    refine dc_each keyOf (part 2) (fun ks vs => st.new _ _ np) _ [] [] (by rw [keys_map]; exact nd) (fun d hd ks vs k hk => ?_) ?_
    · obtain ⟨t, ht, rfl⟩ := tabs_mem hd
      unfold tabD
      walk_at "rd"
      exact ⟨_, rfl, hk⟩
    rw [List.nil_append, List.nil_append, keys_map, kc_map]
    simp only [gdel_gset np]
    refine setF_at gset_same rfl ?_
    walk_at "rd"
    have hx5 := hx.put (o := .ins 0 ([] ++ [.int n] ++ [.tup (tabsD ts)] ++ [.tupp (namesD ts)] ++ [.dic (keysK ts) (ts.map colsD)] ++ [.dic (keysK ts) (ts.map fun t => .int t.keys)])) g0
    refine handed_it hx5 fun stay st => fun p np => ?_
    refine lc_each (fun _ => .tup []) (fun acc => st.new _ _ np) (fun d hd acc k hk => ?_) ?_
    · walk_at "rd"
      exact ⟨by decide, hk⟩
    simp only [gdel_gset np]
    refine tup_lst (by rw [len, sizeLine_eq]; omega) ?_
    rw [emp_map]
    refine setF_at gset_same rfl ?_
    have hx6 := hx.put (o := .ins 0 ([] ++ [.int n] ++ [.tup (tabsD ts)] ++ [.tupp (namesD ts)] ++ [.dic (keysK ts) (ts.map colsD)] ++ [.dic (keysK ts) (ts.map fun t => .int t.keys)] ++ [.tup (ts.map fun _ => .tup [])])) g0
    walk_at "rd"
    refine ⟨n, x, ts, rfl, hx6, ok, ?_⟩
    refine setF_at gset_same rfl ?_
    rw [gset_gset]
    exact q

theorem take_call {a : Addr} {m : Int} {b : List D} {G : GH} {Q : DK} {Ex : DX} (h0 : 0 < m) (h1 : m < 2 ^ 64) (g : G a = some (.lst b)) (hb : BagOk b) (q : ∀ v b', 0 ≤ v → v < m → BagOk b' → Q (.int v) (gset G a (.lst b'))) : sp_law_take [.ref a, .int m] G Q Ex :=
  ⟨a, m, b, rfl, h0, h1, g, hb, q⟩
theorem read_law_one (ds : List D) (G : GH) (Q : DK) (Ex : DX) (h : sp_law_one ds G Q Ex) : t_law_one (endsOf Q Ex) (startD ["_law_bag_here", "_law_things"] ds) G := by
  obtain ⟨a, b, xs, rfl, g, hb, h0, h1, q⟩ := h
  unfold t_law_one
  walk_at "rd"
  have hz : sizeLine < 2 ^ 64 := by rw [sizeLine_eq]; decide
  refine take_call (by omega) (by omega) g hb fun v b' v0 v1 hb' => ?_
  walk_at "rd"
  have hl : v.toNat < xs.length := by omega
  exact ⟨xs[v.toNat], by rw [atI_get xs v0, List.getElem?_eq_getElem hl], q _ _ (List.getElem_mem hl) hb'⟩
theorem many_le {n : Nat} {ts : List Tab} (ok : SetOk n ts) : (many n ts).natAbs ≤ 10 ^ 60 := by
  have : ∀ (us : List Tab) (acc : Nat), (∀ t ∈ us, TabOk n t) → ∃ m : Nat, us.foldl (fun a t => a * manyT n t) (acc : Int) = m ∧ m ≤ acc * (2 ^ 64) ^ us.length := by
    intro us
    induction us with
    | nil => intro acc _; exact ⟨acc, rfl, by simp⟩
    | cons t us ih =>
      intro acc h
      obtain ⟨b1, b2, b3⟩ := tab_small ok.lo ok.hi (h t List.mem_cons_self)
      obtain ⟨m, e, hm⟩ := ih (acc * (1 + n ^ (t.cols.length - t.keys)) ^ (n ^ t.keys)) fun u hu => h u (List.mem_cons_of_mem _ hu)
      refine ⟨m, ?_, Nat.le_trans hm ?_⟩
      · rw [List.foldl_cons, manyT_nat, ← Int.natCast_mul]
        exact e
      · generalize (2 ^ 64 : Nat) = B at b3
        rw [List.length_cons, Nat.pow_succ, Nat.mul_comm (B ^ us.length), ← Nat.mul_assoc]
        exact Nat.mul_le_mul_right _ (Nat.mul_le_mul_left _ b3)
  obtain ⟨m, e, hm⟩ := this ts 1 ok.ok
  unfold many
  rw [show (1 : Int) = ((1 : Nat) : Int) from rfl, e, Int.natAbs_natCast]
  refine Nat.le_trans hm ?_
  have := ok.thi
  refine Nat.le_trans (Nat.mul_le_mul_left _ (Nat.pow_le_pow_right (by decide) this)) (by decide +kernel)


theorem wg_size {n : Nat} {ts : List Tab} {G : GH} {Q : DK} (q : Q (.int n) G) : dgetO (worldD n ts) (.str "size") G Q := ⟨_, rfl, _, rfl, q⟩
theorem wg_tabs {n : Nat} {ts : List Tab} {G : GH} {Q : DK} (q : Q (.lst (tabsD ts)) G) : dgetO (worldD n ts) (.str "tables") G Q := ⟨_, rfl, _, rfl, q⟩
theorem ins_schema {n : Nat} {ts : List Tab} {G : GH} : insO 0 (schemaD n ts) G := .inl ⟨_, rfl⟩
end KS
set_option Elab.async false
set_option linter.all false
set_option maxRecDepth 100000
set_option maxHeartbeats 4000000
/-! what many laws share: _law_world -/
namespace KW
open PySem PySem.Spec PyProof.Rows L2 DL KS
open KL hiding sp_law_take
local macro_rules | `(tactic| walk_at "rd") => `(tactic| simp only [wWk, wk_p, wk_t, wk_l, D.tupp.injEq, eqO_p, neO_p, topD_p, tyD_p, wTupP, wTix, wLix, wDGet2, wSeq, wRet, wRetN, wNext, wSet, wIfS, wTest, wOp, wC, wVar, wCall, wCons, wNil, wAnd, wOr, wNot, wAndT, wOrT, wNotT, wAugI, wAug, augMul, augMulW, wSetI, wChain, wRaise, wTryAs, wFn, wLstM, wLst, wTup, wSl, wPart, wNoPart, wMS, wYes, wPar, wAsg, wDisp, wPairs, wiRange, wiEnum, wiEnumS, wiSeq, exists_eq', exists_eq, List.cons.injEq, wipeE, gdName, wExpr, wLc, wDc, wiStr, wiLst, wiTup, itO_l, itO_f, itO_r, itS_t, itS_l, itS_r, inSO_1, notInSO_1, isBO_1, notBO_1, wIf, wFor, wIsiT, wFld, wGet, wRev, revO_t, revO_l, wFrzL, wFrz, frzL_l, frzL_r, frzO_r, wML, wMeth, wSetF, wLenSet, gdTupN_2, gdTupN_3, gdPat_in, iB_tt, iB_lt, iB_tl, iB_ll, wh_int, decide_true, decide_false, Bool.not_eq_true, Bool.and_self, Bool.and_true, Bool.true_and,
  lk, startD, List.map_cons, List.map_nil, List.length_cons, List.length_nil, List.replicate, List.cons_append, List.nil_append, Option.some.injEq, DO.lst.injEq, DO.ins.injEq, exists_eq_left', exists_eq_left, exists_and_left, D.bl.injEq, D.int.injEq, D.str.injEq, D.ref.injEq, D.ty.injEq, D.tup.injEq, D.lst.injEq, List.set_cons_zero, List.set_cons_succ, Nat.sub_self, Nat.reduceAdd, Nat.reduceSub, true_and, and_true, if_true, if_false, ite_true, ite_false, Bool.false_eq_true, reduceIte, Bool.not_true, Bool.not_false,
  int0_ii, intO_ii, addO_ii, addO_ss, addO_tt, addO_ll, mulDO_ii, mulDO_li, mulDO_ti, mulDO_si, ixO_t, ixO_l, ixO_f, ixO_s, ixO_r, negO_c, lenO_1, lenO1_s, lenO1_t, lenO1_l, lenO1_f, absO_i, allO_1, isiO_1, reprO_1, joinO_1, appendO_1, slO_t, slO_l, slO_f, slO_s, setO_ri, augAt_ri, topD_i, topD_s, topD_b, topD_n, topD_t, topD_l, topD_f, topD_d, okD_i, okD_b, okD_n, eqD_ii, tyD_n, tyD_b, tyD_i, tyD_s, tyD_t, tyD_l, tyD_f, tyD_d, eqO_ss, eqO_i, eqO_b, eqO_l, eqO_t, eqO_r, neO_ss, neO_i, neO_b, neO_l, neO_t, neO_r, eqG, neG, atI_0, atI_1, atI_2, atI_3, ixN_40, ixN_41, ixN_42, Int.reduceLE, Int.reduceLT, gset_same, gset_gset, decide_eq_true_eq])

def dg (n : Nat) : Str := ⟨#[48 + n]⟩
def pd (p : Nat × Nat) : Str := ⟨#[48 + p.1, 48 + p.2]⟩
structure PairOk (p : Nat × Nat) : Prop where
  c1 : 1 ≤ p.1
  c3 : p.1 ≤ 3
  k1 : 1 ≤ p.2
  kc : p.2 ≤ p.1
def pairB (p : Nat × Nat) : Bool := decide (1 ≤ p.1) && (decide (p.1 ≤ 3) && (decide (1 ≤ p.2) && decide (p.2 ≤ p.1)))
theorem pair_ok {p : Nat × Nat} (h : pairB p = true) : PairOk p := by
  unfold pairB at h
  simp only [Bool.and_eq_true, decide_eq_true_eq] at h
  exact ⟨h.1, h.2.1, h.2.2.1, h.2.2.2⟩
/-- a text and what it tells: the size, and for each table the numbers of its columns and of its keys -/
structure ShapeOk (z : Str) (n : Nat) (sh : List (Nat × Nat)) : Prop where
  sp : Txt.split z " " = dg n :: sh.map pd
  len : z.length ≤ 20
  lo : 2 ≤ n
  hi : n ≤ 4
  l1 : 1 ≤ sh.length
  l3 : sh.length ≤ 3
  ok : ∀ p ∈ sh, PairOk p
theorem shape_of (z : Str) (n : Nat) (sh : List (Nat × Nat)) (h : (decide (Txt.split z " " = dg n :: sh.map pd) && (decide (z.length ≤ 20) && (decide (2 ≤ n) && (decide (n ≤ 4) && (decide (1 ≤ sh.length) && (decide (sh.length ≤ 3) && sh.all pairB)))))) = true) : ShapeOk z n sh := by
  simp only [Bool.and_eq_true, decide_eq_true_eq] at h
  exact ⟨h.1, h.2.1, h.2.2.1, h.2.2.2.1, h.2.2.2.2.1, h.2.2.2.2.2.1, fun p hp => pair_ok (List.all_eq_true.mp h.2.2.2.2.2.2 p hp)⟩
theorem text_dg {n : Nat} (h : n ≤ 4) : PySem.intText? (dg n) = some (n : Int) := by
  have : n = 0 ∨ n = 1 ∨ n = 2 ∨ n = 3 ∨ n = 4 := by omega
  rcases this with rfl | rfl | rfl | rfl | rfl <;> decide +kernel
def baseN : List Str := ["t", "u", "set", "old", "ab", "k"]
def baseC : List Str := ["k", "v", "w", "row", "new", "t"]
theorem baseN_ok : ∀ z ∈ baseN, NameOk z := by
  intro z h
  unfold baseN at h
  simp only [List.mem_cons, List.not_mem_nil, or_false] at h
  rcases h with rfl | rfl | rfl | rfl | rfl | rfl <;> exact ⟨by decide +kernel, by decide +kernel⟩
theorem baseC_ok : ∀ z ∈ baseC, NameOk z := by
  intro z h
  unfold baseC at h
  simp only [List.mem_cons, List.not_mem_nil, or_false] at h
  rcases h with rfl | rfl | rfl | rfl | rfl | rfl <;> exact ⟨by decide +kernel, by decide +kernel⟩
theorem baseN_nd : baseN.Nodup := by decide +kernel
theorem baseC_nd : baseC.Nodup := by decide +kernel
theorem perm_take {α : Type} : ∀ {l : List α} {i : Nat} {x : α}, l[i]? = some x → List.Perm l (x :: l.eraseIdx i)
  | [], _, _, h => by simp at h
  | a :: l, 0, x, h => by
    simp at h
    subst h
    exact List.Perm.refl _
  | a :: l, i + 1, x, h => by
    have ih := perm_take (l := l) (i := i) (x := x) (by simpa using h)
    exact (List.Perm.cons a ih).trans (List.Perm.swap x a _)
theorem perm_next {α : Type} {cs l b : List α} {i : Nat} {x : α} (p : List.Perm (cs ++ l) b) (h : l[i]? = some x) : List.Perm (cs ++ [x] ++ l.eraseIdx i) b := by
  rw [List.append_assoc]
  exact ((perm_take h).symm.append_left cs).trans p
theorem get_map_str {l : List Str} {i : Nat} (h : i < l.length) : (l.map D.str)[i]? = some (.str l[i]) := by
  rw [List.getElem?_map, List.getElem?_eq_getElem h]
  rfl
theorem erase_map : ∀ {l : List Str} {i : Nat}, (l.map D.str).eraseIdx i = (l.eraseIdx i).map D.str
  | [], _ => rfl
  | _ :: _, 0 => rfl
  | a :: l, i + 1 => by
    show D.str a :: (l.map D.str).eraseIdx i = _
    rw [erase_map (l := l) (i := i)]
    rfl
/-- a world of a shape -/
structure WorldOk (n : Nat) (sh : List (Nat × Nat)) (ts : List Tab) : Prop extends SetOk n ts where
  shp : ts.map (fun t => (t.cols.length, t.keys)) = sh
  nm : ∀ t ∈ ts, t.nm ∈ baseN
  cl : ∀ t ∈ ts, ∀ c ∈ t.cols, c ∈ baseC
/-- what stands elsewhere, stays -/
def Kp (a : Addr) (G G' : GH) : Prop := ∀ c o, c ≠ a → G c = some o → G' c = some o
theorem Kp.refl {a : Addr} {G : GH} : Kp a G G := fun _ _ _ h => h
theorem Kp.at_ {a : Addr} {G G' : GH} (k : Kp a G G') {o : DO} : Kp a G (gset G' a o) := fun c o n h => by
  rw [gset_ne n]
  exact k c o n h
theorem Kp.new {a x : Addr} {G G' : GH} (k : Kp a G G') (hx : G x = none) {o : DO} : Kp a G (gset G' x o) := fun c o n h => by
  have : c ≠ x := by rintro rfl; rw [hx] at h; cases h
  rw [gset_ne this]
  exact k c o n h
theorem Kp.del {a x : Addr} {G G' : GH} (k : Kp a G G') (hx : G x = none) : Kp a G (gdel G' x) := fun c o n h => by
  have : c ≠ x := by rintro rfl; rw [hx] at h; cases h
  rw [gdel_ne this]
  exact k c o n h
theorem Kp.none {a x : Addr} {G G' : GH} (k : Kp a G G') (hx : x ≠ a) (h : G' x = none) : G x = none := by
  cases e : G x with
  | none => rfl
  | some o => rw [k x o hx e] at h; cases h
def sp_law_world : DSp := fun ds G Q _ => ∃ a b, ∃ zs : List Str, ds = [.ref a, .lst (zs.map D.str)] ∧ G a = some (.lst b) ∧ BagOk b ∧ 0 < zs.length ∧ zs.length ≤ 100 ∧ (∀ z ∈ zs, ∃ n sh, ShapeOk z n sh) ∧
  ∀ z n sh ts b' G', z ∈ zs → ShapeOk z n sh → WorldOk n sh ts → BagOk b' → G' a = some (.lst b') → Kp a G G' → Q (worldD n ts) G'
theorem len_law_world {ds : List D} {G : GH} {Q : DK} {Ex : DX} (h : sp_law_world ds G Q Ex) : ds.length = 2 := by
  obtain ⟨_, _, _, rfl, _⟩ := h
  rfl
def t_law_world : TSd :=
  (wSeq (wPar 2 3 (wCons (wMS splitO (wFn sp_law_one (wCons (wVar 0) (wCons (wVar 1) wNil))) (wCons (wC (.str " ")) wNil)) (wCons (wLstM (wCons (wC (.str "t")) (wCons (wC (.str "u")) (wCons (wC (.str "set")) (wCons (wC (.str "old")) (wCons (wC (.str "ab")) (wCons (wC (.str "k")) wNil))))))) wNil)))
  (wSeq (wSet 4 (wLstM wNil))
  (wSeq (wFor (wiLst (wSl slO (wVar 2) (wPart (wC (.int 1))) wNoPart)) (gdName 5) (wSeq (wSet 6 (wLstM (wCons (wC (.str "k")) (wCons (wC (.str "v")) (wCons (wC (.str "w")) (wCons (wC (.str "row")) (wCons (wC (.str "new")) (wCons (wC (.str "t")) wNil))))))))
  (wSeq (wSet 7 (wLc (wiRange (wCons (wCall intSO (wCons (wOp ixO (wVar 5) (wC (.int 0))) wNil)) wNil)) (gdName 9) wYes (wML popAtO (wVar 6) (wCons (wFn sp_law_take (wCons (wVar 0) (wCons (wCall lenO (wCons (wVar 6) wNil)) wNil))) wNil)) [9]))
  (wSeq (wSet 8 (wML popAtO (wVar 3) (wCons (wFn sp_law_take (wCons (wVar 0) (wCons (wCall lenO (wCons (wVar 3) wNil)) wNil))) wNil)))
  (wExpr (wML appendO (wVar 4) (wCons (wTup (wCons (wVar 8) (wCons (wCall tuplePO (wCons (wVar 7) wNil)) (wCons (wCall intSO (wCons (wOp ixO (wVar 5) (wC (.int 1))) wNil)) wNil)))) wNil)))))))
  (wRet (wDisp (((wC (.str "size")), (wCall intSO (wCons (wOp ixO (wVar 2) (wC (.int 0))) wNil))) :: (((wC (.str "tables")), (wFrz (wVar 4))) :: (((wC (.str "rules")), (wLst wNil)) :: (((wC (.str "pairs")), (wLst wNil)) :: [])))))))))
/-- a table of a world -/
structure TabW (n : Nat) (t : Tab) : Prop extends TabOk n t where
  bn : t.nm ∈ baseN
  bc : ∀ c ∈ t.cols, c ∈ baseC
theorem world_of {n : Nat} {sh : List (Nat × Nat)} {ts : List Tab} {nl : List Str} (lo : 2 ≤ n) (hi : n ≤ 4) (l1 : 1 ≤ ts.length) (l3 : ts.length ≤ 3) (hs : ts.map (fun t => (t.cols.length, t.keys)) = sh) (h : ∀ t ∈ ts, TabW n t) (p : List.Perm (ts.map (·.nm) ++ nl) baseN) : WorldOk n sh ts where
  lo := lo
  hi := hi
  tlo := l1
  thi := l3
  ok := fun t ht => (h t ht).toTabOk
  nd := (List.nodup_append.mp (p.nodup_iff.mpr baseN_nd)).1
  shp := hs
  nm := fun t ht => (h t ht).bn
  cl := fun t ht => (h t ht).bc
theorem tabs_snoc (ts : List Tab) (t : Tab) : tabsD ts ++ [tabD t] = tabsD (ts ++ [t]) := by unfold tabsD; rw [List.map_append]; rfl
theorem read_law_world (ds : List D) (G : GH) (Q : DK) (Ex : DX) (h : sp_law_world ds G Q Ex) : t_law_world (endsOf Q Ex) (startD ["_law_bag_here", "_law_shapes_here", "_law_parts", "_law_names", "_law_tables", "_law_part", "_law_columns", "_law_some", "_law_name", "_law_k"] ds) G := by
  obtain ⟨a, b, zs, rfl, g, hb, z0, z1, hzs, q⟩ := h
  unfold t_law_world
  walk_at "rd"
  refine ⟨a, b, zs.map D.str, rfl, g, hb, by rw [List.length_map]; exact z0, by rw [List.length_map, sizeLine_eq]; omega, fun d b1 hd hb1 => ?_⟩
  obtain ⟨z, hz, rfl⟩ := List.mem_map.mp hd
  obtain ⟨n, sh, so⟩ := hzs z hz
  have s1 := so.len
  have s2 := so.l3
  refine ⟨⟨_, rfl⟩, ?_⟩
  refine ⟨by decide, by rw [sizeLine_eq]; omega, ?_, ?_⟩
  · rw [so.sp, List.length_cons, List.length_map, sizeLine_eq]; omega
  rw [so.sp]
  refine ⟨by decide, fun pn npn => ⟨_, _, ⟨rfl, rfl⟩, by decide, fun pt npt => ?_⟩⟩
  have an : a ≠ pn := by rintro rfl; rw [gset_same] at npn; cases npn
  have tn : pt ≠ pn := by rintro rfl; rw [gset_same] at npt; cases npt
  have at' : a ≠ pt := by rintro rfl; rw [gset_ne an, gset_same] at npt; cases npt
  have gpn : G pn = none := by rw [gset_ne an.symm] at npn; exact npn
  have gpt : G pt = none := by rw [gset_ne tn, gset_ne at'.symm] at npt; exact npt
  have parts : DL.cutD ((dg n :: sh.map pd).map D.str) (some 1) none = sh.map fun p => D.str (pd p) := by
    have := cut_from (xs := (dg n :: sh.map pd).map D.str) (i := 1) (by simp)
    rw [show ((1 : Nat) : Int) = 1 from rfl] at this
    rw [this, List.map_cons, List.drop_succ_cons, List.drop_zero, List.map_map]
    rfl
  walk_at "rd"
  rw [show ((dg n :: sh.map pd).map D.str) = D.str (dg n) :: (sh.map pd).map D.str from rfl] at *
  rw [parts]
  refine wForL_ix (I := fun i env G' => ∃ b ts nl x5 x6 x7 x8, env = [some (.ref a), some (.lst (zs.map D.str)), some (.lst (D.str (dg n) :: (sh.map pd).map D.str)), some (.ref pn), some (.ref pt), x5, x6, x7, x8, none] ∧
      G' a = some (.lst b) ∧ BagOk b ∧ G' pn = some (.lst (List.map D.str nl)) ∧ List.Perm (ts.map (·.nm) ++ nl) baseN ∧ G' pt = some (.lst (tabsD ts)) ∧ ts.length = i ∧ (∀ t ∈ ts, TabW n t) ∧ ts.map (fun t => (t.cols.length, t.keys)) = sh.take i ∧ Kp a G G') ?_ ?_ _ _
      ⟨b1, [], baseN, _, _, _, _, rfl, ?_, hb1, ?_, List.Perm.refl _, gset_same, rfl, (fun _ h => nomatch h), rfl, (Kp.refl.at_.new gpn).new gpt⟩
  · rintro env G1 ⟨b, ts, nl, x5, x6, x7, x8, rfl, ga, hb, gn, pn', gt, hl, hts, hsh, kp⟩
    refine ⟨trivial, ?_⟩
    walk_at "rd"
    intro p np
    have pa : a ≠ p := by rintro rfl; rw [ga] at np; cases np
    have ppt : pt ≠ p := by rintro rfl; rw [gt] at np; cases np
    refine ⟨n, text_dg so.hi, by show 1 ≤ 640; decide, tabsD ts, by rw [gset_ne ppt]; exact gt, by decide, by decide, by rw [gdel_ne ppt.symm, gset_same], _, rfl, by decide +kernel, ?_⟩
    refine q z n sh ts b _ hz so (world_of so.lo so.hi ?_ ?_ ?_ hts pn') hb ?_ ?_
    · rw [hl, List.length_map]; exact so.l1
    · rw [hl, List.length_map]; exact s2
    · rw [List.length_map] at hsh
      rw [hsh, List.take_length]
    · rw [gdel_ne pa, gdel_ne at', gset_ne pa]
      exact ga
    · exact ((kp.new (kp.none pa.symm np)).del gpt).del (kp.none pa.symm np)
  · rintro i d env G1 nx hd ⟨b, ts, nl, x5, x6, x7, x8, rfl, ga, hb, gn, pn', gt, hl, hts, hsh, kp⟩ hnx
    rw [List.getElem?_map] at hd
    cases hp : sh[i]? with
    | none => rw [hp] at hd; cases hd
    | some pr =>
      rw [hp] at hd
      cases hd
      have po := so.ok pr (List.mem_of_getElem? hp)
      refine ⟨trivial, ?_⟩
      walk_at "rd"
      refine ⟨by decide, fun pc npc => ?_⟩
      have nca : a ≠ pc := by rintro rfl; rw [ga] at npc; cases npc
      have ncn : pn ≠ pc := by rintro rfl; rw [gn] at npc; cases npc
      have nct : pt ≠ pc := by rintro rfl; rw [gt] at npc; cases npc
      have c3 := po.c3
      refine ⟨by show 2 ≤ sizeLine; decide, 48 + pr.1, rfl, pr.1, text_dg (by omega), by show 1 ≤ 640; decide, pr.1, rfl, by omega, by omega, fun p np => ?_⟩
      have npc' : p ≠ pc := by rintro rfl; rw [gset_same] at np; cases np
      have np0 : G1 p = none := by rw [gset_ne npc'] at np; exact np
      have npa : a ≠ p := by rintro rfl; rw [ga] at np0; cases np0
      have npn' : pn ≠ p := by rintro rfl; rw [gn] at np0; cases np0
      have npt' : pt ≠ p := by rintro rfl; rw [gt] at np0; cases np0
      have gpc : G pc = none := kp.none nca.symm npc
      have gp0 : G p = none := kp.none npa.symm np0
      refine wCompL_inv (I := fun r acc G' => ∃ b cs left, acc = List.map D.str cs ∧ r.length + cs.length = pr.1 ∧ G' p = some (.lst acc) ∧ G' a = some (.lst b) ∧ BagOk b ∧ G' pc = some (.lst (List.map D.str left)) ∧ List.Perm (cs ++ left) baseC ∧
        G' pn = some (.lst (List.map D.str nl)) ∧ G' pt = some (.lst (tabsD ts)) ∧ Kp a G G') ?_ ?_ _ _ _ ⟨b, [], baseC, rfl, ?_, gset_same, ?_, hb, ?_, List.Perm.refl _, ?_, ?_, (kp.new gpc).new gp0⟩
      · rintro acc G2 ⟨b2, cs, left, rfl, hlen, gp, ga2, hb2, gc2, pc2, gn2, gt2, kp2⟩
        refine ⟨trivial, gp, ?_⟩
        have hlen : cs.length = pr.1 := by simpa using hlen
        have dn : gdel G2 p pn = some (.lst (List.map D.str nl)) := by rw [gdel_ne npn']; exact gn2
        have da : gdel G2 p a = some (.lst b2) := by rw [gdel_ne npa]; exact ga2
        have dt : gdel G2 p pt = some (.lst (tabsD ts)) := by rw [gdel_ne npt']; exact gt2
        have si := lt_of_get hp
        have nll : ts.length + nl.length = 6 := by
          have := pn'.length_eq
          rw [List.length_append, List.length_map] at this
          exact this
        refine ⟨_, dn, ?_⟩
        rw [topD_ref dn]
        walk_at "rd"
        rw [List.length_map]
        refine take_call (by omega) (by omega) da hb2 fun v b3 v0 v1 hb3 => ?_
        have hv : v.toNat < nl.length := by omega
        refine ⟨_, by rw [gset_ne an.symm]; exact dn, v, rfl, v0, _, get_map_str hv, ?_⟩
        rw [erase_map]
        have gt3 : gset (gset (gdel G2 p) a (.lst b3)) pn (.lst (List.map D.str (nl.eraseIdx v.toNat))) pt = some (.lst (tabsD ts)) := by
          rw [gset_ne tn, gset_ne at'.symm]
          exact dt
        refine ⟨_, gt3, ?_⟩
        refine tupp_lst (by rw [List.length_map, sizeLine_eq]; omega) (nid_strs _) ?_
        refine ⟨by show 2 ≤ sizeLine; decide, 48 + pr.2, rfl, pr.2, text_dg (by have := po.kc; omega), by show 1 ≤ 640; decide, by decide, _, gt3, by unfold tabsD; rw [List.length_map, sizeLine_eq]; omega, ?_⟩
        have nb : nl[v.toNat] ∈ baseN := pn'.subset (List.mem_append_right _ (List.getElem_mem hv))
        have cb : ∀ c ∈ cs, c ∈ baseC := fun c hc => pc2.subset (List.mem_append_left _ hc)
        have cnd : cs.Nodup := (List.nodup_append.mp (pc2.nodup_iff.mpr baseC_nd)).1
        refine hnx _ _ ⟨b3, ts ++ [⟨nl[v.toNat], cs, pr.2⟩], nl.eraseIdx v.toNat, _, _, _, _, rfl, ?_, hb3, ?_, ?_, ?_, ?_, ?_, ?_, (((kp2.del gp0).at_).new gpn).new gpt⟩
        · rw [gset_ne at', gset_ne an, gset_same]
        · rw [gset_ne tn.symm, gset_same]
        · rw [List.map_append]
          exact perm_next pn' (List.getElem?_eq_getElem hv)
        · rw [gset_same, ← tabs_snoc]
          rfl
        · rw [List.length_append, hl]; rfl
        · intro t ht
          rcases List.mem_append.mp ht with ht | ht
          · exact hts t ht
          · rw [List.mem_singleton.mp ht]
            exact { nm := baseN_ok _ nb, cols := fun c hc => baseC_ok c (cb c hc), lo := by show 1 ≤ cs.length; rw [hlen]; exact po.c1, hi := by show cs.length ≤ 3; omega, nd := cnd, klo := po.k1, khi := by show pr.2 ≤ cs.length; rw [hlen]; exact po.kc, bn := nb, bc := cb }
        · rw [List.map_append, hsh, List.take_succ, hp]
          show _ = _
          rw [List.map_cons, List.map_nil, hlen]
          rfl
      · rintro d r acc G2 k ⟨b2, cs, left, rfl, hlen, gp, ga2, hb2, gc2, pc2, gn2, gt2, kp2⟩ hk
        refine ⟨trivial, ?_⟩
        have ll : cs.length + left.length = 6 := by
          have := pc2.length_eq
          rw [List.length_append] at this
          exact this
        rw [List.length_cons] at hlen
        walk_at "rd"
        refine ⟨_, gc2, ?_⟩
        rw [topD_ref gc2]
        walk_at "rd"
        rw [List.length_map]
        refine take_call (by omega) (by omega) ga2 hb2 fun v b3 v0 v1 hb3 => ?_
        have hv : v.toNat < left.length := by omega
        refine ⟨_, by rw [gset_ne nca.symm]; exact gc2, v, rfl, v0, _, get_map_str hv, ?_⟩
        rw [erase_map]
        refine ⟨by rw [gset_ne npc', gset_ne npa.symm]; exact gp, hk _ _ ⟨b3, cs ++ [left[v.toNat]], left.eraseIdx v.toNat, by rw [List.map_append]; rfl, by rw [List.length_append, List.length_singleton]; omega, gset_same, ?_, hb3, ?_, perm_next pc2 (List.getElem?_eq_getElem hv), ?_, ?_, ((kp2.at_).new gpc).new gp0⟩⟩
        · rw [gset_ne npa, gset_ne nca, gset_same]
        · rw [gset_ne npc'.symm, gset_same]
        · rw [gset_ne npn', gset_ne ncn, gset_ne an.symm]; exact gn2
        · rw [gset_ne npt', gset_ne nct, gset_ne at'.symm]; exact gt2
      · rw [rangeD_len]; rfl
      · rw [gset_ne npa, gset_ne nca]; exact ga
      · rw [gset_ne npc'.symm, gset_same]; rfl
      · rw [gset_ne npn', gset_ne ncn]; exact gn
      · rw [gset_ne npt', gset_ne nct]; exact gt
  · rw [gset_ne at', gset_ne an, gset_same]
  · rw [gset_ne tn.symm, gset_same]
    rfl
theorem dg_inj {n m : Nat} (h : dg n = dg m) : n = m := by
  unfold dg at h
  have := congrArg (fun z : Str => z.cps.toList) h
  simpa using this
theorem pd_inj {p q : Nat × Nat} (h : pd p = pd q) : p = q := by
  unfold pd at h
  have := congrArg (fun z : Str => z.cps.toList) h
  have : p.1 = q.1 ∧ p.2 = q.2 := by simpa using this
  exact Prod.ext this.1 this.2
theorem pds_inj : ∀ {xs ys : List (Nat × Nat)}, xs.map pd = ys.map pd → xs = ys
  | [], [], _ => rfl
  | [], _ :: _, h => nomatch h
  | _ :: _, [], h => nomatch h
  | x :: xs, y :: ys, h => by
    rw [List.map_cons, List.map_cons, List.cons.injEq] at h
    rw [pd_inj h.1, pds_inj h.2]
theorem shape_uniq {z : Str} {n m : Nat} {sh sh' : List (Nat × Nat)} (h : ShapeOk z n sh) (h' : ShapeOk z m sh') : n = m ∧ sh = sh' := by
  have e := h.sp.symm.trans h'.sp
  rw [List.cons.injEq] at e
  exact ⟨dg_inj e.1, pds_inj e.2⟩
end KW
set_option Elab.async false
set_option linter.all false
set_option maxRecDepth 100000
set_option maxHeartbeats 4000000
/-! what many laws share: rows and contents as drawn, the Schema of a world -/
namespace KR
open PySem PySem.Spec PyProof.Rows L2 DL KS
open KL hiding sp_law_take
local macro_rules | `(tactic| walk_at "rd") => `(tactic| simp only [wWk, wk_p, wk_t, wk_l, D.tupp.injEq, eqO_p, neO_p, topD_p, tyD_p, wTupP, reprL_1, wTix, wLix, wDGet2, wSeq, wRet, wRetN, wNext, wSet, wIfS, wTest, wOp, wC, wVar, wCall, wCons, wNil, wAnd, wOr, wNot, wAndT, wOrT, wNotT, wAugI, wAug, augMul, augMulW, wSetI, wChain, wRaise, wTryAs, wFn, wLstM, wLst, wTup, wSl, wPart, wNoPart, wMS, wYes, wPar, wAsg, wDisp, wPairs, wiRange, wiEnum, wiEnumS, wiSeq, exists_eq', exists_eq, List.cons.injEq, wipeE, gdName, wExpr, wLc, wDc, wiStr, wiLst, wiTup, itO_l, itO_f, itO_r, itS_t, itS_l, itS_r, inSO_1, notInSO_1, isBO_1, notBO_1, wIf, wFor, wIsiT, wFld, wGet, wRev, revO_t, revO_l, wFrzL, wFrz, frzL_l, frzL_r, frzO_r, wML, wMeth, wSetF, wLenSet, gdTupN_2, gdTupN_3, gdPat_in, iB_tt, iB_lt, iB_tl, iB_ll, wh_int, decide_true, decide_false, Bool.not_eq_true, Bool.and_self, Bool.and_true, Bool.true_and,
  lk, startD, List.map_cons, List.map_nil, List.length_cons, List.length_nil, List.replicate, List.cons_append, List.nil_append, Option.some.injEq, DO.lst.injEq, DO.ins.injEq, exists_eq_left', exists_eq_left, exists_and_left, D.bl.injEq, D.int.injEq, D.str.injEq, D.ref.injEq, D.ty.injEq, D.tup.injEq, D.lst.injEq, List.set_cons_zero, List.set_cons_succ, Nat.sub_self, Nat.reduceAdd, Nat.reduceSub, true_and, and_true, if_true, if_false, ite_true, ite_false, Bool.false_eq_true, reduceIte, Bool.not_true, Bool.not_false,
  int0_ii, intO_ii, addO_ii, addO_ss, addO_tt, addO_ll, mulDO_ii, mulDO_li, mulDO_ti, mulDO_si, ixO_t, ixO_l, ixO_f, ixO_s, ixO_r, negO_c, lenO_1, lenO1_s, lenO1_t, lenO1_l, lenO1_f, absO_i, allO_1, isiO_1, reprO_1, joinO_1, appendO_1, slO_t, slO_l, slO_f, slO_s, setO_ri, augAt_ri, topD_i, topD_s, topD_b, topD_n, topD_t, topD_l, topD_f, topD_d, okD_i, okD_b, okD_n, eqD_ii, tyD_n, tyD_b, tyD_i, tyD_s, tyD_t, tyD_l, tyD_f, tyD_d, eqO_ss, eqO_i, eqO_b, eqO_l, eqO_t, eqO_r, neO_ss, neO_i, neO_b, neO_l, neO_t, neO_r, eqG, neG, atI_0, atI_1, atI_2, atI_3, ixN_40, ixN_41, ixN_42, Int.reduceLE, Int.reduceLT, gset_same, gset_gset, decide_eq_true_eq])

/-- a row as drawn -/
def RowOk (n : Nat) (t : Tab) (ns : List Int) : Prop := ns.length = t.cols.length ∧ ∀ i ∈ ns, 0 ≤ i ∧ i < (n : Int)
def rowD (ns : List Int) : D := .tup (ns.map D.int)
def contD (rows : List (List Int)) : D := .tup (rows.map rowD)
def sp_law_row : DSp := fun ds G Q _ => ∃ a b n ts t, ds = [.ref a, worldD n ts, tabD t] ∧ G a = some (.lst b) ∧ BagOk b ∧ SetOk n ts ∧ t ∈ ts ∧ ∀ ns b', RowOk n t ns → BagOk b' → Q (rowD ns) (gset G a (.lst b'))
def sp_law_content : DSp := fun ds G Q _ => ∃ a b n ts t, ∃ m : Nat, ds = [.ref a, worldD n ts, tabD t, .int m] ∧ m ≤ 6 ∧ G a = some (.lst b) ∧ BagOk b ∧ SetOk n ts ∧ t ∈ ts ∧
  ∀ rows b', rows.length ≤ m → (∀ r ∈ rows, RowOk n t r) → BagOk b' → Q (contD rows) (gset G a (.lst b'))
def sp_law_schema : DSp := fun ds G Q _ => ∃ n ts, ds = [worldD n ts] ∧ SetOk n ts ∧ ∀ ph, G ph = none → Q (schemaD n ts) (gset G ph (.lst (tabsD ts)))
def t_law_row : TSd :=
  (wRet (wCall tupleO (wCons (wLc (wiTup (wWk (wOp ixO (wVar 2) (wC (.int 1))))) (gdName 3) wYes (wFn sp_law_take (wCons (wVar 0) (wCons (wGet (wVar 1) (wC (.str "size"))) wNil))) [3]) wNil)))
def t_law_content : TSd :=
  (wSeq (wSet 4 wDNewT)
  (wSeq (wFor (wiRange (wCons (wFn sp_law_take (wCons (wVar 0) (wCons (wOp addO (wVar 3) (wC (.int 1))) wNil))) wNil)) (gdName 5) (wSeq (wSet 6 (wFn sp_law_row (wCons (wVar 0) (wCons (wVar 1) (wCons (wVar 2) wNil)))))
  (wDPutT (wVar 6) (wVar 4) (wSl slO (wVar 6) wNoPart (wPart (wOp ixO (wVar 2) (wC (.int 2))))))))
  (wRet (wCall tupleO (wCons (wForget 4 (wSortV (wVar 4))) wNil)))))
def t_law_schema : TSd :=
  (wRet (wMake nC flds 0 sp_Schema___init__ (wCons (wGet (wVar 0) (wC (.str "size"))) (wCons (wCall listO (wCons (wGet (wVar 0) (wC (.str "tables"))) wNil)) wNil))))
theorem gset_id {G : GH} {a : Addr} {d : DO} (h : G a = some d) : gset G a d = G := by
  funext b
  unfold gset
  split
  · rename_i e; rw [e, h]
  · rfl
theorem ints_of_all {m : Int} : ∀ {acc : List D}, (∀ y ∈ acc, ∃ i, y = .int i ∧ 0 ≤ i ∧ i < m) → ∃ ns : List Int, acc = ns.map D.int ∧ ∀ i ∈ ns, 0 ≤ i ∧ i < m
  | [], _ => ⟨[], rfl, fun _ h => nomatch h⟩
  | y :: r, h => by
    obtain ⟨i, e, h0⟩ := h y List.mem_cons_self
    obtain ⟨ns, er, hr⟩ := ints_of_all (acc := r) fun z hz => h z (List.mem_cons_of_mem _ hz)
    exact ⟨i :: ns, by rw [e, er]; rfl, fun j hj => by
      rcases List.mem_cons.mp hj with rfl | hj
      · exact h0
      · exact hr j hj⟩
theorem tup_lst {ds : List D} {G : GH} {Q : DK} (l : ds.length ≤ sizeLine) (q : Q (.tup ds) G) : tupleO [.lst ds] G Q := ⟨_, rfl, l, q⟩
theorem read_law_row (ds : List D) (G : GH) (Q : DK) (Ex : DX) (h : sp_law_row ds G Q Ex) : t_law_row (endsOf Q Ex) (startD ["_law_bag_here", "_law_world_here", "_law_table", "_law_column"] ds) G := by
  obtain ⟨a, b, n, ts, t, rfl, ga, hb, ok, ht, q⟩ := h
  have tok := ok.ok t ht
  have n1 := ok.lo
  have n2 := ok.hi
  have hi := tok.hi
  unfold t_law_row tabD colsD
  walk_at "rd"
  intro p np
  have hap : p ≠ a := by rintro rfl; rw [ga] at np; cases np
  rw [← gset_id ga]
  refine lc_draw (J := fun d => ∃ b, d = .lst b ∧ BagOk b) (R := fun y => ∃ i, y = .int i ∧ 0 ≤ i ∧ i < (n : Int)) (n := t.cols.length) (fun _ _ => trivial) (fun d b acc kk hJ hk => ?_) (fun acc b2 hR hl hJ => ?_) (t.cols.map D.str) [] b ?_ (fun _ h => nomatch h) ⟨_, rfl, hb⟩
  · obtain ⟨b0, e, hb0⟩ := hJ
    cases e
    walk_at "rd"
    refine wg_size (n := n) (ts := ts) ?_
    refine take_call (by omega) (by omega) (gset_two hap) hb0 fun v b' v0 v1 hb' => ?_
    rw [gset_swap hap, gset_gset]
    exact ⟨gset_same, hk _ _ ⟨v, rfl, v0, v1⟩ ⟨_, rfl, hb'⟩⟩
  · obtain ⟨b0, e, hb0⟩ := hJ
    cases e
    obtain ⟨ns, rfl, hns⟩ := ints_of_all hR
    have hl : ns.length = t.cols.length := by simpa using hl
    rw [gdel_gset (by rw [gset_ne hap]; exact np)]
    refine tup_lst (by rw [List.length_map, sizeLine_eq]; omega) ?_
    exact q ns _ ⟨hl, hns⟩ hb0
  · simp
theorem make_ok {n : Nat} {ts : List Tab} {x : D} {G : GH} {R : List D → GH → Prop} {Ex : DX} {p : Addr} (np : G p = none) (ok : SetOk n ts) (h : Handed x G ts) (q : R (schemaV n ts) (gset G p (.ins 0 (schemaV n ts)))) :
    sp_Schema___init__ [.ref p, .int n, x] (gset G p (.ins 0 [])) (fun v G2 => v = .non ∧ ∃ vs, G2 p = some (.ins 0 vs) ∧ vs.length = (flds 0).length ∧ R vs G2) Ex := by
  refine ⟨p, n, x, ts, rfl, gset_same, h.new np, ok, rfl, schemaV n ts, gset_same, rfl, ?_⟩
  rw [gset_gset]
  exact q
theorem tabs_len (ts : List Tab) : (tabsD ts).length = ts.length := by unfold tabsD; rw [List.length_map]
theorem read_law_schema (ds : List D) (G : GH) (Q : DK) (Ex : DX) (h : sp_law_schema ds G Q Ex) : t_law_schema (endsOf Q Ex) (startD ["_law_world_here"] ds) G := by
  obtain ⟨n, ts, rfl, ok, q⟩ := h
  have hi := ok.thi
  unfold t_law_schema
  walk_at "rd"
  simp only [wMake, wMakeM]
  walk_at "rd"
  refine wg_size (n := n) (ts := ts) ?_
  refine wg_tabs (n := n) (ts := ts) ?_
  refine ⟨tabsD ts, rfl, by rw [tabs_len, sizeLine_eq]; omega, fun ph nph => ?_⟩
  intro p np
  refine make_ok np ok (.inr ⟨ph, rfl, gset_same⟩) ?_
  rw [gdel_gset np]
  exact q ph nph
theorem alike_ints : ∀ (a b : List Int), PySem.W.alikeAll (pyRs (a.map D.int)) (pyRs (b.map D.int)) = true
  | [], _ => by simp [pyRs, PySem.W.alikeAll]
  | _ :: _, [] => by simp [pyRs, PySem.W.alikeAll]
  | x :: a, y :: b => by
    rw [List.map_cons, List.map_cons]
    unfold pyRs pyR PySem.W.alikeAll
    rw [alike_ints a b]
    rfl
theorem row_sm {r : List Int} (h : ∀ i ∈ r, i.natAbs ≤ 10 ^ 60) : Sm (rowD r) ((r.map D.int).length * (0 + 1)) 1 := sm_tup (b := 0) (k := 0) fun x hx => by
  obtain ⟨i, hi, rfl⟩ := List.mem_map.mp hx
  exact sm_int (h i hi)
theorem rows_sort {rows : List (List Int)} (h : ∀ r ∈ rows, r ≠ [] ∧ ∀ i ∈ r, i.natAbs ≤ 10 ^ 60) : SortOk (rows.map rowD) := by
  refine ⟨fun d hd => ?_, ?_, ?_⟩
  · obtain ⟨r, hr, rfl⟩ := List.mem_map.mp hd
    have s := row_sm (h r hr).2
    exact ⟨flat_show s.fl, Nat.le_trans s.dp (by decide)⟩
  · intro d hd d' hd'
    rw [List.map_map] at hd hd'
    obtain ⟨r, hr, rfl⟩ := List.mem_map.mp hd
    obtain ⟨r', hr', rfl⟩ := List.mem_map.mp hd'
    show PySem.W.alike (pyR (rowD r)) (pyR (rowD r')) = true
    unfold rowD pyR PySem.W.alike
    exact alike_ints r r'
  · refine .inl fun d hd => ?_
    rw [List.map_map] at hd
    obtain ⟨r, hr, rfl⟩ := List.mem_map.mp hd
    cases r with
    | nil => exact absurd rfl (h _ hr).1
    | cons x r => exact ⟨pyR (.int x), pyRs (r.map D.int), by show pyR (.tup (D.int x :: r.map D.int)) = _; simp only [pyR, pyRs]⟩
theorem rows_of {p : List Int → Prop} : ∀ {acc : List D}, (∀ y ∈ acc, ∃ c, y = rowD c ∧ p c) → ∃ cs : List (List Int), acc = cs.map rowD ∧ ∀ c ∈ cs, p c
  | [], _ => ⟨[], rfl, fun _ h => nomatch h⟩
  | y :: r, h => by
    obtain ⟨c, e, hc⟩ := h y List.mem_cons_self
    obtain ⟨cs, er, hr⟩ := rows_of (acc := r) fun z hz => h z (List.mem_cons_of_mem _ hz)
    exact ⟨c :: cs, by rw [e, er]; rfl, fun j hj => by
      rcases List.mem_cons.mp hj with rfl | hj
      · exact hc
      · exact hr j hj⟩
theorem setAtT_mem {k : List Key} {y : D} : ∀ {ks : List (List Key)} {xs : List D} {z : D}, z ∈ setAtT ks xs k y → z ∈ xs ∨ z = y
  | [], xs, z, h => by unfold setAtT at h; exact .inl h
  | _ :: _, [], z, h => by unfold setAtT at h; exact .inl h
  | g :: ks, x :: xs, z, h => by
    unfold setAtT at h
    rcases List.mem_cons.mp h with e | h
    · by_cases eg : g = k
      · rw [if_pos eg] at e; exact .inr e
      · rw [if_neg eg] at e; exact .inl (by rw [e]; exact List.mem_cons_self)
    · rcases setAtT_mem h with h | h
      · exact .inl (List.mem_cons_of_mem _ h)
      · exact .inr h
theorem putVT_mem {k : List Key} {y : D} {ks : List (List Key)} {xs : List D} {z : D} (h : z ∈ putVT ks xs k y) : z ∈ xs ∨ z = y := by
  unfold putVT at h
  split at h
  · exact setAtT_mem h
  · rcases List.mem_append.mp h with h | h
    · exact .inl h
    · exact .inr (List.mem_singleton.mp h)
theorem putVT_len {k : List Key} {y : D} {ks : List (List Key)} {xs : List D} : (putVT ks xs k y).length ≤ xs.length + 1 := by
  unfold putVT
  split
  · rw [setAtT_len]; omega
  · simp
theorem putKT_le {k : List Key} {ks : List (List Key)} : (putKT ks k).length ≤ ks.length + 1 := by
  rw [putKT_len]
  split <;> omega
theorem ints_keys : ∀ {ds : List D}, (∀ d ∈ ds, ∃ i, d = .int i) → ∃ k, ds.mapM keyD = some k
  | [], _ => ⟨[], rfl⟩
  | d :: ds, h => by
    obtain ⟨i, e⟩ := h d List.mem_cons_self
    obtain ⟨k, hk⟩ := ints_keys (ds := ds) fun x hx => h x (List.mem_cons_of_mem _ hx)
    refine ⟨.inl i :: k, ?_⟩
    rw [List.mapM_cons, e, hk]
    rfl
theorem key_cut {ns : List Int} {k : Nat} (h1 : 1 ≤ k) (h2 : k ≤ ns.length) : ∃ kk, keyT (.tup (DL.cutD (ns.map D.int) none (some (k : Int)))) = some kk := by
  rw [cut_to (by rw [List.length_map]; exact h2)]
  cases ns with
  | nil => simp at h2; omega
  | cons i r =>
    obtain ⟨j, rfl⟩ : ∃ j, k = j + 1 := ⟨k - 1, by omega⟩
    rw [List.map_cons, List.take_succ_cons]
    show ∃ kk, (D.int i :: (r.map D.int).take j).mapM keyD = some kk
    refine ints_keys fun d hd => ?_
    rcases List.mem_cons.mp hd with e | hd
    · exact ⟨i, e⟩
    · obtain ⟨x, _, e⟩ := List.mem_map.mp (List.mem_of_mem_take hd)
      exact ⟨x, e.symm⟩
theorem read_law_content (ds : List D) (G : GH) (Q : DK) (Ex : DX) (h : sp_law_content ds G Q Ex) : t_law_content (endsOf Q Ex) (startD ["_law_bag_here", "_law_world_here", "_law_table", "_law_bound", "_law_rows", "_law_k", "_law_row_here"] ds) G := by
  obtain ⟨a, b, n, ts, t, m, rfl, hm, ga, hb, ok, ht, q⟩ := h
  have tok := ok.ok t ht
  unfold t_law_content tabD colsD
  walk_at "rd"
  simp only [wDNewT]
  intro p np
  have hap : p ≠ a := by rintro rfl; rw [ga] at np; cases np
  have hap2 : a ≠ p := fun e => hap e.symm
  refine take_call (by omega) (by omega) (by rw [gset_ne hap2]; exact ga) hb fun v b1 v0 v1 hb1 => ?_
  refine ⟨v, rfl, by omega, by omega, ?_⟩
  refine wForL_ix (I := fun i env G' => ∃ x5 x6 ks rows b2, env = [some (.ref a), some (worldD n ts), some (.tup [.str t.nm, .tupp (t.cols.map D.str), .int t.keys]), some (.int m), some (.ref p), x5, x6] ∧
    G' = gset (gset G p (.dct ks (rows.map rowD))) a (.lst b2) ∧ BagOk b2 ∧ ks.length ≤ i ∧ rows.length ≤ i ∧ ∀ r ∈ rows, RowOk n t r) ?_ ?_ _ _ ⟨_, _, [], [], b1, rfl, rfl, hb1, Nat.le_refl _, Nat.le_refl _, fun _ h => nomatch h⟩
  · rintro env G1 ⟨x5, x6, ks, rows, b2, rfl, rfl, hb2, kl, rl, hr⟩
    refine ⟨trivial, ?_⟩
    simp only [wForget, wSortV]
    walk_at "rd"
    rw [rangeD_len] at kl rl
    have rl2 : rows.length ≤ m := by omega
    have so : SortOk (rows.map rowD) := rows_sort fun r h => by
      obtain ⟨h1, h2⟩ := hr r h
      have := tok.lo
      have n4 := ok.hi
      exact ⟨fun e => by rw [e] at h1; simp at h1; omega, fun i hi => by have := h2 i hi; omega⟩
    obtain ⟨rows2, e2, hr2⟩ := rows_of (p := RowOk n t) (acc := sortedD (rows.map rowD)) fun y hy => by
      obtain ⟨r, h, e⟩ := List.mem_map.mp ((List.mergeSort_perm (rows.map rowD) _).mem_iff.mp hy)
      exact ⟨r, e.symm, hr r h⟩
    have l2 : rows2.length = rows.length := by
      have := congrArg List.length e2
      rw [sortedD_len, List.length_map, List.length_map] at this
      exact this.symm
    refine ⟨ks, rows.map rowD, by rw [gset_ne hap, gset_same], so, by rw [List.length_map, sizeLine_eq]; omega, ?_⟩
    have eg : gdel (gset (gset G p (.dct ks (rows.map rowD))) a (.lst b2)) p = gset G a (.lst b2) := by
      funext c
      unfold gdel gset
      by_cases e : c = p
      · subst e
        rw [if_pos rfl, if_neg hap, np]
      · rw [if_neg e]
        split
        · rfl
        · first | rfl | rw [if_neg e]
    rw [eg, e2]
    refine tup_lst (by rw [List.length_map, sizeLine_eq]; omega) ?_
    exact q rows2 b2 (by omega) hr2 hb2
  · rintro i d env G1 nx hd ⟨x5, x6, ks, rows, b2, rfl, rfl, hb2, kl, rl, hr⟩ hnx
    refine ⟨trivial, ?_⟩
    walk_at "rd"
    simp only [wDPutT]
    walk_at "rd"
    have hi := (rangeD_get hd).1
    refine ⟨a, b2, n, ts, t, rfl, gset_same, hb2, ok, ht, fun ns b3 hns hb3 => ?_⟩
    obtain ⟨k, hk⟩ := key_cut (ns := ns) tok.klo (by rw [hns.1]; exact tok.khi)
    have go : slO (rowD ns) none (some (t.keys : Int)) (gset (gset G p (.dct ks (rows.map rowD))) a (.lst b3)) (fun y G3 => dputTO (.ref p) y (rowD ns) G3 fun G4 =>
        nx [some (.ref a), some (worldD n ts), some (.tup [.str t.nm, .tupp (t.cols.map D.str), .int t.keys]), some (.int m), some (.ref p), some d, some (rowD ns)] G4) := by
      unfold rowD
      rw [slO_t]
      refine ⟨p, ks, rows.map rowD, k, rfl, by rw [gset_ne hap, gset_same]; rfl, hk, by rw [sizeLine_eq]; omega, ?_⟩
      obtain ⟨rows3, e3, hr3⟩ := rows_of (p := RowOk n t) (acc := putVT ks (rows.map rowD) k (rowD ns)) fun y hy => by
        rcases putVT_mem hy with hy | hy
        · obtain ⟨r, h, e⟩ := List.mem_map.mp hy
          exact ⟨r, e.symm, hr r h⟩
        · exact ⟨ns, hy, hns⟩
      have l3 : rows3.length ≤ rows.length + 1 := by
        have := putVT_len (k := k) (y := rowD ns) (ks := ks) (xs := rows.map rowD)
        rw [e3, List.length_map, List.length_map] at this
        exact this
      have l4 := putKT_le (k := k) (ks := ks)
      refine hnx _ _ ⟨some d, some (rowD ns), putKT ks k, rows3, b3, rfl, ?_, hb3, by omega, by omega, hr3⟩
      rw [← e3]
      exact gset_swap hap2
    rw [gset_gset]
    exact go
theorem lc_drawM {a p : Addr} {stay : GH → Prop} {gd : TGd} {tt : TTd} {te : TEd} {env0 : Ev} {Q : List D → GH → Prop} {G0 : GH} (P : D → Prop) (J R : D → Prop) (hst : ∀ (d : DO) acc, stay (gset (gset G0 a d) p (.lst acc)))
    (h : ∀ (d : D) (b acc : List D) (k : List D → GH → Prop), P d → J (.lst b) → (∀ y b', R y → J (.lst b') → k (acc ++ [y]) (gset (gset G0 a (.lst b')) p (.lst (acc ++ [y])))) → lcTurn p gd tt te env0 d acc (gset (gset G0 a (.lst b)) p (.lst acc)) k)
    {n : Nat} (q : ∀ acc b, (∀ y ∈ acc, R y) → acc.length = n → J (.lst b) → Q acc (gset (gset G0 a (.lst b)) p (.lst acc))) :
    ∀ (ds acc b : List D), acc.length + ds.length = n → (∀ d ∈ ds, P d) → (∀ y ∈ acc, R y) → J (.lst b) → wCompL p stay gd tt te env0 Q ds acc (gset (gset G0 a (.lst b)) p (.lst acc))
  | [], acc, b, hl, _, ha, hb => ⟨hst _ _, gset_same, q acc b ha (by simpa using hl) hb⟩
  | d :: r, acc, b, hl, hp, ha, hb => ⟨hst _ _, h d b acc (fun acc' G' => wCompL p stay gd tt te env0 Q r acc' G') (hp d List.mem_cons_self) hb fun y b' hy hb' =>
    lc_drawM P J R hst h q r (acc ++ [y]) b' (by simp only [List.length_append, List.length_cons, List.length_nil] at hl ⊢; omega) (fun z hz => hp z (List.mem_cons_of_mem _ hz))
      (fun z hz => by
        rcases List.mem_append.mp hz with hz | hz
        · exact ha z hz
        · rw [List.mem_singleton.mp hz]; exact hy) hb'⟩
theorem conts_of {p : List (List Int) → Prop} : ∀ {acc : List D}, (∀ y ∈ acc, ∃ c, y = contD c ∧ p c) → ∃ cs : List (List (List Int)), acc = cs.map contD ∧ ∀ c ∈ cs, p c
  | [], _ => ⟨[], rfl, fun _ h => nomatch h⟩
  | y :: r, h => by
    obtain ⟨c, e, hc⟩ := h y List.mem_cons_self
    obtain ⟨cs, er, hr⟩ := conts_of (acc := r) fun z hz => h z (List.mem_cons_of_mem _ hz)
    exact ⟨c :: cs, by rw [e, er]; rfl, fun j hj => by
      rcases List.mem_cons.mp hj with rfl | hj
      · exact hc
      · exact hr j hj⟩
end KR
set_option Elab.async false
set_option linter.all false
set_option maxRecDepth 100000
set_option maxHeartbeats 4000000
namespace KW
open PySem PySem.Spec PyProof.Rows L2 DL KS
open KL hiding sp_law_take
local macro_rules | `(tactic| walk_at "rd") => `(tactic| simp only [wWk, wk_p, wk_t, wk_l, D.tupp.injEq, eqO_p, neO_p, topD_p, tyD_p, wTupP, reprL_1, wTix, wLix, wDGet2, wSeq, wRet, wRetN, wNext, wSet, wIfS, wTest, wOp, wC, wVar, wCall, wCons, wNil, wAnd, wOr, wNot, wAndT, wOrT, wNotT, wAugI, wAug, augMul, augMulW, wSetI, wChain, wRaise, wTryAs, wFn, wLstM, wLst, wTup, wSl, wPart, wNoPart, wMS, wYes, wPar, wAsg, wDisp, wPairs, wiRange, wiEnum, wiEnumS, wiSeq, exists_eq', exists_eq, List.cons.injEq, wipeE, gdName, wExpr, wLc, wDc, wiStr, wiLst, wiTup, itO_l, itO_f, itO_r, itS_t, itS_l, itS_r, inSO_1, notInSO_1, isBO_1, notBO_1, wIf, wFor, wIsiT, wFld, wGet, wRev, revO_t, revO_l, wFrzL, wFrz, frzL_l, frzL_r, frzO_r, wML, wMeth, wSetF, wLenSet, gdTupN_2, gdTupN_3, gdPat_in, iB_tt, iB_lt, iB_tl, iB_ll, wh_int, decide_true, decide_false, Bool.not_eq_true, Bool.and_self, Bool.and_true, Bool.true_and,
  lk, startD, List.map_cons, List.map_nil, List.length_cons, List.length_nil, List.replicate, List.cons_append, List.nil_append, Option.some.injEq, DO.lst.injEq, DO.ins.injEq, exists_eq_left', exists_eq_left, exists_and_left, D.bl.injEq, D.int.injEq, D.str.injEq, D.ref.injEq, D.ty.injEq, D.tup.injEq, D.lst.injEq, List.set_cons_zero, List.set_cons_succ, Nat.sub_self, Nat.reduceAdd, Nat.reduceSub, true_and, and_true, if_true, if_false, ite_true, ite_false, Bool.false_eq_true, reduceIte, Bool.not_true, Bool.not_false,
  int0_ii, intO_ii, addO_ii, addO_ss, addO_tt, addO_ll, mulDO_ii, mulDO_li, mulDO_ti, mulDO_si, ixO_t, ixO_l, ixO_f, ixO_s, ixO_r, negO_c, lenO_1, lenO1_s, lenO1_t, lenO1_l, lenO1_f, absO_i, allO_1, isiO_1, reprO_1, joinO_1, appendO_1, slO_t, slO_l, slO_f, slO_s, setO_ri, augAt_ri, topD_i, topD_s, topD_b, topD_n, topD_t, topD_l, topD_f, topD_d, okD_i, okD_b, okD_n, eqD_ii, tyD_n, tyD_b, tyD_i, tyD_s, tyD_t, tyD_l, tyD_f, tyD_d, eqO_ss, eqO_i, eqO_b, eqO_l, eqO_t, eqO_r, neO_ss, neO_i, neO_b, neO_l, neO_t, neO_r, eqG, neG, atI_0, atI_1, atI_2, atI_3, ixN_40, ixN_41, ixN_42, Int.reduceLE, Int.reduceLT, gset_same, gset_gset, decide_eq_true_eq])

def t_law_world2 : TSd :=
  (wSeq (wPar 2 3 (wCons (wMS splitO (wFn sp_law_one (wCons (wVar 0) (wCons (wVar 1) wNil))) (wCons (wC (.str " ")) wNil)) (wCons (wLstM (wCons (wC (.str "t")) (wCons (wC (.str "u")) (wCons (wC (.str "set")) (wCons (wC (.str "old")) (wCons (wC (.str "ab")) (wCons (wC (.str "k")) wNil))))))) wNil)))
  (wSeq (wSet 4 (wLstM wNil))
  (wSeq (wFor (wiLst (wSl slO (wVar 2) (wPart (wC (.int 1))) wNoPart)) (gdName 5) (wSeq (wSet 6 (wLstM (wCons (wC (.str "k")) (wCons (wC (.str "v")) (wCons (wC (.str "w")) (wCons (wC (.str "row")) (wCons (wC (.str "new")) (wCons (wC (.str "t")) wNil))))))))
  (wSeq (wSet 7 (wLc (wiRange (wCons (wCall intSO (wCons (wOp ixO (wVar 5) (wC (.int 0))) wNil)) wNil)) (gdName 8) wYes (wML popAtO (wVar 6) (wCons (wFn sp_law_take (wCons (wVar 0) (wCons (wCall lenO (wCons (wVar 6) wNil)) wNil))) wNil)) [8]))
  (wExpr (wML appendO (wVar 4) (wCons (wTup (wCons (wML popAtO (wVar 3) (wCons (wFn sp_law_take (wCons (wVar 0) (wCons (wCall lenO (wCons (wVar 3) wNil)) wNil))) wNil)) (wCons (wCall tuplePO (wCons (wVar 7) wNil)) (wCons (wCall intSO (wCons (wOp ixO (wVar 5) (wC (.int 1))) wNil)) wNil)))) wNil))))))
  (wRet (wDisp (((wC (.str "size")), (wCall intSO (wCons (wOp ixO (wVar 2) (wC (.int 0))) wNil))) :: (((wC (.str "tables")), (wFrz (wVar 4))) :: (((wC (.str "rules")), (wLst wNil)) :: (((wC (.str "pairs")), (wLst wNil)) :: [])))))))))
theorem read_law_world2 (ds : List D) (G : GH) (Q : DK) (Ex : DX) (h : sp_law_world ds G Q Ex) : t_law_world2 (endsOf Q Ex) (startD ["_law_bag_here", "_law_shapes_here", "_law_parts", "_law_names", "_law_tables", "_law_part", "_law_columns", "_law_some", "_law_k"] ds) G := by
  obtain ⟨a, b, zs, rfl, g, hb, z0, z1, hzs, q⟩ := h
  unfold t_law_world2
  walk_at "rd"
  refine ⟨a, b, zs.map D.str, rfl, g, hb, by rw [List.length_map]; exact z0, by rw [List.length_map, sizeLine_eq]; omega, fun d b1 hd hb1 => ?_⟩
  obtain ⟨z, hz, rfl⟩ := List.mem_map.mp hd
  obtain ⟨n, sh, so⟩ := hzs z hz
  have s1 := so.len
  have s2 := so.l3
  refine ⟨⟨_, rfl⟩, ?_⟩
  refine ⟨by decide, by rw [sizeLine_eq]; omega, ?_, ?_⟩
  · rw [so.sp, List.length_cons, List.length_map, sizeLine_eq]; omega
  rw [so.sp]
  refine ⟨by decide, fun pn npn => ⟨_, _, ⟨rfl, rfl⟩, by decide, fun pt npt => ?_⟩⟩
  have an : a ≠ pn := by rintro rfl; rw [gset_same] at npn; cases npn
  have tn : pt ≠ pn := by rintro rfl; rw [gset_same] at npt; cases npt
  have at' : a ≠ pt := by rintro rfl; rw [gset_ne an, gset_same] at npt; cases npt
  have gpn : G pn = none := by rw [gset_ne an.symm] at npn; exact npn
  have gpt : G pt = none := by rw [gset_ne tn, gset_ne at'.symm] at npt; exact npt
  have parts : DL.cutD ((dg n :: sh.map pd).map D.str) (some 1) none = sh.map fun p => D.str (pd p) := by
    have := cut_from (xs := (dg n :: sh.map pd).map D.str) (i := 1) (by simp)
    rw [show ((1 : Nat) : Int) = 1 from rfl] at this
    rw [this, List.map_cons, List.drop_succ_cons, List.drop_zero, List.map_map]
    rfl
  walk_at "rd"
  rw [show ((dg n :: sh.map pd).map D.str) = D.str (dg n) :: (sh.map pd).map D.str from rfl] at *
  rw [parts]
  refine wForL_ix (I := fun i env G' => ∃ b ts nl x5 x6 x7, env = [some (.ref a), some (.lst (zs.map D.str)), some (.lst (D.str (dg n) :: (sh.map pd).map D.str)), some (.ref pn), some (.ref pt), x5, x6, x7, none] ∧
      G' a = some (.lst b) ∧ BagOk b ∧ G' pn = some (.lst (List.map D.str nl)) ∧ List.Perm (ts.map (·.nm) ++ nl) baseN ∧ G' pt = some (.lst (tabsD ts)) ∧ ts.length = i ∧ (∀ t ∈ ts, TabW n t) ∧ ts.map (fun t => (t.cols.length, t.keys)) = sh.take i ∧ Kp a G G') ?_ ?_ _ _
      ⟨b1, [], baseN, _, _, _, rfl, ?_, hb1, ?_, List.Perm.refl _, gset_same, rfl, (fun _ h => nomatch h), rfl, (Kp.refl.at_.new gpn).new gpt⟩
  · rintro env G1 ⟨b, ts, nl, x5, x6, x7, rfl, ga, hb, gn, pn', gt, hl, hts, hsh, kp⟩
    refine ⟨trivial, ?_⟩
    walk_at "rd"
    intro p np
    have pa : a ≠ p := by rintro rfl; rw [ga] at np; cases np
    have ppt : pt ≠ p := by rintro rfl; rw [gt] at np; cases np
    refine ⟨n, text_dg so.hi, by show 1 ≤ 640; decide, tabsD ts, by rw [gset_ne ppt]; exact gt, by decide, by decide, by rw [gdel_ne ppt.symm, gset_same], _, rfl, by decide +kernel, ?_⟩
    refine q z n sh ts b _ hz so (world_of so.lo so.hi ?_ ?_ ?_ hts pn') hb ?_ ?_
    · rw [hl, List.length_map]; exact so.l1
    · rw [hl, List.length_map]; exact s2
    · rw [List.length_map] at hsh
      rw [hsh, List.take_length]
    · rw [gdel_ne pa, gdel_ne at', gset_ne pa]
      exact ga
    · exact ((kp.new (kp.none pa.symm np)).del gpt).del (kp.none pa.symm np)
  · rintro i d env G1 nx hd ⟨b, ts, nl, x5, x6, x7, rfl, ga, hb, gn, pn', gt, hl, hts, hsh, kp⟩ hnx
    rw [List.getElem?_map] at hd
    cases hp : sh[i]? with
    | none => rw [hp] at hd; cases hd
    | some pr =>
      rw [hp] at hd
      cases hd
      have po := so.ok pr (List.mem_of_getElem? hp)
      refine ⟨trivial, ?_⟩
      walk_at "rd"
      refine ⟨by decide, fun pc npc => ?_⟩
      have nca : a ≠ pc := by rintro rfl; rw [ga] at npc; cases npc
      have ncn : pn ≠ pc := by rintro rfl; rw [gn] at npc; cases npc
      have nct : pt ≠ pc := by rintro rfl; rw [gt] at npc; cases npc
      have c3 := po.c3
      refine ⟨by show 2 ≤ sizeLine; decide, 48 + pr.1, rfl, pr.1, text_dg (by omega), by show 1 ≤ 640; decide, pr.1, rfl, by omega, by omega, fun p np => ?_⟩
      have npc' : p ≠ pc := by rintro rfl; rw [gset_same] at np; cases np
      have np0 : G1 p = none := by rw [gset_ne npc'] at np; exact np
      have npa : a ≠ p := by rintro rfl; rw [ga] at np0; cases np0
      have npn' : pn ≠ p := by rintro rfl; rw [gn] at np0; cases np0
      have npt' : pt ≠ p := by rintro rfl; rw [gt] at np0; cases np0
      have gpc : G pc = none := kp.none nca.symm npc
      have gp0 : G p = none := kp.none npa.symm np0
      refine wCompL_inv (I := fun r acc G' => ∃ b cs left, acc = List.map D.str cs ∧ r.length + cs.length = pr.1 ∧ G' p = some (.lst acc) ∧ G' a = some (.lst b) ∧ BagOk b ∧ G' pc = some (.lst (List.map D.str left)) ∧ List.Perm (cs ++ left) baseC ∧
        G' pn = some (.lst (List.map D.str nl)) ∧ G' pt = some (.lst (tabsD ts)) ∧ Kp a G G') ?_ ?_ _ _ _ ⟨b, [], baseC, rfl, ?_, gset_same, ?_, hb, ?_, List.Perm.refl _, ?_, ?_, (kp.new gpc).new gp0⟩
      · rintro acc G2 ⟨b2, cs, left, rfl, hlen, gp, ga2, hb2, gc2, pc2, gn2, gt2, kp2⟩
        refine ⟨trivial, gp, ?_⟩
        have hlen : cs.length = pr.1 := by simpa using hlen
        have dn : gdel G2 p pn = some (.lst (List.map D.str nl)) := by rw [gdel_ne npn']; exact gn2
        have da : gdel G2 p a = some (.lst b2) := by rw [gdel_ne npa]; exact ga2
        have dt : gdel G2 p pt = some (.lst (tabsD ts)) := by rw [gdel_ne npt']; exact gt2
        have si := lt_of_get hp
        have nll : ts.length + nl.length = 6 := by
          have := pn'.length_eq
          rw [List.length_append, List.length_map] at this
          exact this
        refine ⟨_, dt, _, dn, ?_⟩
        rw [topD_ref dn]
        walk_at "rd"
        rw [List.length_map]
        refine take_call (by omega) (by omega) da hb2 fun v b3 v0 v1 hb3 => ?_
        have hv : v.toNat < nl.length := by omega
        refine ⟨_, by rw [gset_ne an.symm]; exact dn, v, rfl, v0, _, get_map_str hv, ?_⟩
        rw [erase_map]
        have gt3 : gset (gset (gdel G2 p) a (.lst b3)) pn (.lst (List.map D.str (nl.eraseIdx v.toNat))) pt = some (.lst (tabsD ts)) := by
          rw [gset_ne tn, gset_ne at'.symm]
          exact dt
        refine tupp_lst (by rw [List.length_map, sizeLine_eq]; omega) (nid_strs _) ?_
        refine ⟨by show 2 ≤ sizeLine; decide, 48 + pr.2, rfl, pr.2, text_dg (by have := po.kc; omega), by show 1 ≤ 640; decide, by decide, _, gt3, by unfold tabsD; rw [List.length_map, sizeLine_eq]; omega, ?_⟩
        have nb : nl[v.toNat] ∈ baseN := pn'.subset (List.mem_append_right _ (List.getElem_mem hv))
        have cb : ∀ c ∈ cs, c ∈ baseC := fun c hc => pc2.subset (List.mem_append_left _ hc)
        have cnd : cs.Nodup := (List.nodup_append.mp (pc2.nodup_iff.mpr baseC_nd)).1
        refine hnx _ _ ⟨b3, ts ++ [⟨nl[v.toNat], cs, pr.2⟩], nl.eraseIdx v.toNat, _, _, _, rfl, ?_, hb3, ?_, ?_, ?_, ?_, ?_, ?_, (((kp2.del gp0).at_).new gpn).new gpt⟩
        · rw [gset_ne at', gset_ne an, gset_same]
        · rw [gset_ne tn.symm, gset_same]
        · rw [List.map_append]
          exact perm_next pn' (List.getElem?_eq_getElem hv)
        · rw [gset_same, ← tabs_snoc]
          rfl
        · rw [List.length_append, hl]; rfl
        · intro t ht
          rcases List.mem_append.mp ht with ht | ht
          · exact hts t ht
          · rw [List.mem_singleton.mp ht]
            exact { nm := baseN_ok _ nb, cols := fun c hc => baseC_ok c (cb c hc), lo := by show 1 ≤ cs.length; rw [hlen]; exact po.c1, hi := by show cs.length ≤ 3; omega, nd := cnd, klo := po.k1, khi := by show pr.2 ≤ cs.length; rw [hlen]; exact po.kc, bn := nb, bc := cb }
        · rw [List.map_append, hsh, List.take_succ, hp]
          show _ = _
          rw [List.map_cons, List.map_nil, hlen]
          rfl
      · rintro d r acc G2 k ⟨b2, cs, left, rfl, hlen, gp, ga2, hb2, gc2, pc2, gn2, gt2, kp2⟩ hk
        refine ⟨trivial, ?_⟩
        have ll : cs.length + left.length = 6 := by
          have := pc2.length_eq
          rw [List.length_append] at this
          exact this
        rw [List.length_cons] at hlen
        walk_at "rd"
        refine ⟨_, gc2, ?_⟩
        rw [topD_ref gc2]
        walk_at "rd"
        rw [List.length_map]
        refine take_call (by omega) (by omega) ga2 hb2 fun v b3 v0 v1 hb3 => ?_
        have hv : v.toNat < left.length := by omega
        refine ⟨_, by rw [gset_ne nca.symm]; exact gc2, v, rfl, v0, _, get_map_str hv, ?_⟩
        rw [erase_map]
        refine ⟨by rw [gset_ne npc', gset_ne npa.symm]; exact gp, hk _ _ ⟨b3, cs ++ [left[v.toNat]], left.eraseIdx v.toNat, by rw [List.map_append]; rfl, by rw [List.length_append, List.length_singleton]; omega, gset_same, ?_, hb3, ?_, perm_next pc2 (List.getElem?_eq_getElem hv), ?_, ?_, ((kp2.at_).new gpc).new gp0⟩⟩
        · rw [gset_ne npa, gset_ne nca, gset_same]
        · rw [gset_ne npc'.symm, gset_same]
        · rw [gset_ne npn', gset_ne ncn, gset_ne an.symm]; exact gn2
        · rw [gset_ne npt', gset_ne nct, gset_ne at'.symm]; exact gt2
      · rw [rangeD_len]; rfl
      · rw [gset_ne npa, gset_ne nca]; exact ga
      · rw [gset_ne npc'.symm, gset_same]; rfl
      · rw [gset_ne npn', gset_ne ncn]; exact gn
      · rw [gset_ne npt', gset_ne nct]; exact gt
  · rw [gset_ne at', gset_ne an, gset_same]
  · rw [gset_ne tn.symm, gset_same]
    rfl
end KW
set_option Elab.async false
set_option linter.all false
set_option maxRecDepth 100000
set_option maxHeartbeats 4000000
namespace K19
open PySem PySem.Spec PyProof.Rows L2 DL KS KR
open KL hiding sp_law_take sp_law_alike sp_law_bag sp_is_integer sp_is_name
/-- pairs of a column and a value -/
def prs (ps : List (Str × Int)) : List D := ps.map fun p => D.tup [.str p.1, .int p.2]
structure PairsOk (n : Nat) (t : Tab) (ps : List (Str × Int)) : Prop where
  nd : (ps.map (·.1)).Nodup
  cl : ∀ p ∈ ps, p.1 ∈ t.cols
  lo : ∀ p ∈ ps, 0 ≤ p.2 ∧ p.2 < (n : Int)
  len : ps.length ≤ 3
/-- statements -/
inductive Stm where
  | ins (k : Bool) (t : Tab) (r : List Int)
  | del (t : Tab) (w : List (Str × Int))
  | upd (t : Tab) (w s : List (Str × Int))
def kindZ (k : Bool) : Str := if k = true then "insert" else "offer"
def Stm.D : Stm → D
  | .ins k t r => .tup [.str (kindZ k), .str t.nm, rowD r]
  | .del t w => .tup [.str "delete", .str t.nm, .tupp (prs w)]
  | .upd t w s => .tup [.str "update", .str t.nm, .tupp (prs w), .tupp (prs s)]
def Stm.ok (n : Nat) (ts : List Tab) : Stm → Prop
  | .ins _ t r => t ∈ ts ∧ RowOk n t r
  | .del t w => t ∈ ts ∧ PairsOk n t w
  | .upd t w s => t ∈ ts ∧ PairsOk n t w ∧ PairsOk n t s
def atC (t : Tab) (r : List Int) (z : Str) : Int := r.getD (ixS t.cols z) 0
def matchR (t : Tab) (w : List (Str × Int)) (r : List Int) : Bool := w.all fun p => decide (atC t r p.1 = p.2)
def setV (s : List (Str × Int)) (z : Str) (v : Int) : Int := match s.find? (fun p => decide (p.1 = z)) with
  | some p => p.2
  | none => v
def putR (t : Tab) (s : List (Str × Int)) (r : List Int) : List Int := (t.cols.zip r).map fun p => setV s p.1 p.2
def spot (ts : List Tab) (t : Tab) : Nat := ixS (ts.map (·.nm)) t.nm
def rowsOf (ts : List Tab) (cs : List (List (List Int))) (t : Tab) : List (List Int) := cs.getD (spot ts t) []
def foundR (ts : List Tab) (cs : List (List (List Int))) (t : Tab) (w : List (Str × Int)) : List (List Int) := (rowsOf ts cs t).filter (matchR t w)
def hitsL (ts : List Tab) (cs : List (List (List Int))) : Stm → List D
  | .ins _ _ r => [.tup [.non, rowD r]]
  | .del t w => (foundR ts cs t w).map fun r => .tup [rowD r, .non]
  | .upd t w s => (foundR ts cs t w).map fun r => .tup [rowD r, rowD (putR t s r)]
structure DbOk (n : Nat) (ts : List Tab) (cs : List (List (List Int))) : Prop where
  len : cs.length = ts.length
  ok : ∀ (i : Nat) (t : Tab) (c : List (List Int)), ts[i]? = some t → cs[i]? = some c → c.length ≤ 6 ∧ ∀ r ∈ c, RowOk n t r
def dbD (cs : List (List (List Int))) : D := .tup (cs.map contD)
def sp_matches : DSp := fun ds G Q _ => ∃ n t r w, ds = [colsD t, rowD r, .tupp (prs w)] ∧ TabOk n t ∧ RowOk n t r ∧ PairsOk n t w ∧ Q (.bl (matchR t w r)) G
def sp_put : DSp := fun ds G Q _ => ∃ n t r s, ds = [colsD t, rowD r, .tupp (prs s)] ∧ TabOk n t ∧ RowOk n t r ∧ PairsOk n t s ∧ Q (rowD (putR t s r)) G
def sp_hits : DSp := fun ds G Q _ => ∃ n ts cs st, ds = [schemaD n ts, Stm.D st, dbD cs] ∧ SetOk n ts ∧ DbOk n ts cs ∧ st.ok n ts ∧ ∀ p, G p = none → Q (.ref p) (gset G p (.lst (hitsL ts cs st)))
def sp_law_alike : DSp := fun ds G Q _ => ∃ p xs, ds = [.ref p, .lst xs] ∧ G p = some (.lst xs) ∧ ShowOk (.lst xs) ∧ Q (.bl true) G
def sp_law_world : DSp := KW.sp_law_world
def sp_law_row : DSp := KR.sp_law_row
def sp_law_content : DSp := KR.sp_law_content
def sp_law_schema : DSp := KR.sp_law_schema
def sp_law_drawn_term : DSp := fun ds G Q _ => ∃ a b n ts, ds = [.ref a, worldD n ts, .lst []] ∧ G a = some (.lst b) ∧ BagOk b ∧ SetOk n ts ∧ ∀ v b', 0 ≤ v → v < (n : Int) → BagOk b' → Q (.int v) (gset G a (.lst b'))
def sp_law_pairs : DSp := fun ds G Q _ => ∃ a b n ts t, ds = [.ref a, worldD n ts, .tup (t.cols.map D.str), .lst []] ∧ G a = some (.lst b) ∧ BagOk b ∧ SetOk n ts ∧ t ∈ ts ∧ ∀ ps b', PairsOk n t ps → BagOk b' → Q (.tupp (prs ps)) (gset G a (.lst b'))
def sp_law_written : DSp := fun ds G Q _ => ∃ a b n ts, ds = [.ref a, worldD n ts, .lst []] ∧ G a = some (.lst b) ∧ BagOk b ∧ SetOk n ts ∧ ∀ (st : Stm) b', st.ok n ts → BagOk b' → Q st.D (gset G a (.lst b'))
def sp_law_table : DSp := fun ds G Q _ => ∃ n ts t, ds = [worldD n ts, .str t.nm] ∧ SetOk n ts ∧ t ∈ ts ∧ Q (.tup [.int (spot ts t : Nat), colsD t, .int t.keys]) G
def sp_law_found : DSp := fun ds G Q _ => ∃ n ts cs t w, ds = [worldD n ts, .str t.nm, .tupp (prs w), dbD cs] ∧ SetOk n ts ∧ DbOk n ts cs ∧ t ∈ ts ∧ PairsOk n t w ∧ Q (.lst ((foundR ts cs t w).map rowD)) G
def sp_law_hits : DSp := fun ds G Q _ => ∃ n ts cs st, ds = [worldD n ts, Stm.D st, dbD cs] ∧ SetOk n ts ∧ DbOk n ts cs ∧ st.ok n ts ∧ Q (.lst (hitsL ts cs st)) G
end K19
set_option Elab.async false
set_option linter.all false
set_option maxRecDepth 100000
set_option maxHeartbeats 4000000

namespace K19
open PySem PySem.Spec PyProof.Rows L2 DL KS
def top (i : Nat) : Stmt := PySem.Challenge.pw_firingrules_k19_hits.main.body.getD i (.Pass ⟨0, 0, 0, 0⟩)
def inCls (s : Stmt) (i : Nat) : Stmt := match s with
  | .ClassDef _ _ _ body _ _ _ _ _ _ _ => body.getD i (.Pass ⟨0, 0, 0, 0⟩)
  | _ => s
structure Bl (mg : Str → Option Value) : Prop where
  abs_ : mg "abs" = none
  all_ : mg "all" = none
  bool_ : mg "bool" = none
  dict_ : mg "dict" = none
  enumerate_ : mg "enumerate" = none
  int_ : mg "int" = none
  isinstance_ : mg "isinstance" = none
  len_ : mg "len" = none
  list_ : mg "list" = none
  range_ : mg "range" = none
  repr_ : mg "repr" = none
  set_ : mg "set" = none
  sorted_ : mg "sorted" = none
  str_ : mg "str" = none
  tuple_ : mg "tuple" = none
  zip_ : mg "zip" = none
  LETTERS_ : ∃ t, mg "LETTERS" = some (.str "abcdefghijklmnopqrstuvwxyz" t)
abbrev s_is_integer : Stmt := top 9
theorem sc_is_integer : FnScope ["thing"] ["thing"] (defScope s_is_integer) := ⟨rfl, rfl, rfl, by decide +kernel, rfl, by decide +kernel, by decide +kernel⟩
abbrev t_is_integer : TSd := KL.t_is_integer
theorem body_is_integer {P : Program} {w : World} {T : Tb} {mg : Str → Option Value} {base : Heap} {f : Addr} (m : Bl mg) (hC : ∀ c, c < nC → ClOk T c) (hL : T.flds = flds) (kit : KitOk T nC sub) (g_Schema : mg "Schema" = some (.ref (T.cls 0)))  (cdv : Value) (A : Around) (outer : List Env) (s : Shared) (H : Hp) (E : XK) (hr : RoomG 0 (A.deeper (envOfC "is_integer" (defScope s_is_integer) s.heap.objs.size f cdv))) :
    QSs T (cxOf (L2.CX P w) P w T.K mg base ["thing"] "is_integer" (defScope s_is_integer) f cdv A outer s H E) (fun cls d _ H => E cls d H) (defBody s_is_integer) t_is_integer :=
  have sc := sc_is_integer
  (qs_one (q_ret (by exact (q_and (by exact (q_isi "int" (by rfl) (by exact m.isinstance_) (by exact (qa_cons (by exact (qv 0 (by rfl) (by exact Or.inl rfl))) (qa_cons (by exact (q_bltT (by rfl) (by exact m.int_) (by rfl))) qa_nil))))) (q_one (by exact (q_not (by exact (q_isi "bool" (by rfl) (by exact m.isinstance_) (by exact (qa_cons (by exact (qv 0 (by rfl) (by exact Or.inl rfl))) (qa_cons (by exact (q_bltT (by rfl) (by exact m.bool_) (by rfl))) qa_nil))))))))))))
abbrev s_is_name : Stmt := top 10
theorem sc_is_name : FnScope ["thing", "letter"] ["thing"] (defScope s_is_name) := ⟨rfl, rfl, rfl, by decide +kernel, rfl, by decide +kernel, by decide +kernel⟩
abbrev t_is_name : TSd := KL.t_is_name
theorem body_is_name {P : Program} {w : World} {T : Tb} {mg : Str → Option Value} {base : Heap} {f : Addr} (m : Bl mg) (hC : ∀ c, c < nC → ClOk T c) (hL : T.flds = flds) (kit : KitOk T nC sub) (g_Schema : mg "Schema" = some (.ref (T.cls 0)))  (cdv : Value) (A : Around) (outer : List Env) (s : Shared) (H : Hp) (E : XK) (hr : RoomG 0 (A.deeper (envOfC "is_name" (defScope s_is_name) s.heap.objs.size f cdv))) :
    QSs T (cxOf (L2.CX P w) P w T.K mg base ["thing", "letter"] "is_name" (defScope s_is_name) f cdv A outer s H E) (fun cls d _ H => E cls d H) (defBody s_is_name) t_is_name :=
  have sc := sc_is_name
  (qs_cons (q_if (by exact (QW.qt (qw_or (by exact (qt_not (by exact (qt_val (by exact (q_isi "str" (by rfl) (by exact m.isinstance_) (by exact (qa_cons (by exact (qv 0 (by rfl) (by exact Or.inl rfl))) (qa_cons (by exact (q_bltT (by rfl) (by exact m.str_) (by rfl))) qa_nil))))))))) (qw_or1 (by exact (qt_not (by exact (qt_leLe q_int (by exact (q_len (by rfl) (by exact m.len_) (by exact (qa_cons (by exact (qv 0 (by rfl) (by exact Or.inl rfl))) qa_nil)))) q_int)))))))) (qs_one (q_ret q_bl)) qs_nil)
      (qs_one (q_ret (by exact (q_all (by rfl) (by rfl) (by exact m.all_) (by exact (qa_cons (by exact (q_lc (own := [("letter", 1)]) (by rfl) (by exact sc.nd) (qi_str (by exact (qv 0 (by rfl) (by exact Or.inl rfl)))) (by exact (show BlkOk ["thing", "letter"] (defScope s_is_name) _ [("letter", 1)] from blkOk_by (by decide +kernel))) (by exact (gok_name 1 (by decide))) (fun s H C cl fp => by exact (pg_name (i := 1) (by exact sc.nd) (by rfl) (by exact Or.inl rfl))) (fun s H C cl fp => by exact qts_nil) (fun s H C cl fp => by exact (by exact (q_inS (by exact (qv 1 (by rfl) (by exact Or.inl rfl))) (by exact (q_gstr (by rfl) (by exact m.LETTERS_)))))))) qa_nil)))))))
abbrev s_check_different : Stmt := top 11
theorem sc_check_different : FnScope ["names", "at", "name"] ["names"] (defScope s_check_different) := ⟨rfl, rfl, rfl, by decide +kernel, rfl, by decide +kernel, by decide +kernel⟩
abbrev t_check_different : TSd := KS.t_check_different
theorem body_check_different {P : Program} {w : World} {T : Tb} {mg : Str → Option Value} {base : Heap} {f : Addr} (m : Bl mg) (hC : ∀ c, c < nC → ClOk T c) (hL : T.flds = flds) (kit : KitOk T nC sub) (g_Schema : mg "Schema" = some (.ref (T.cls 0)))  (cdv : Value) (A : Around) (outer : List Env) (s : Shared) (H : Hp) (E : XK) (hr : RoomG 0 (A.deeper (envOfC "check_different" (defScope s_check_different) s.heap.objs.size f cdv))) :
    QSs T (cxOf (L2.CX P w) P w T.K mg base ["names", "at", "name"] "check_different" (defScope s_check_different) f cdv A outer s H E) (fun cls d _ H => E cls d H) (defBody s_check_different) t_check_different :=
  have sc := sc_check_different
  (qs_one (q_for (by exact passes_of rfl) (by rfl) (qi_enum (by rfl) (by exact m.enumerate_) (by exact (qa_cons (by exact (qv 0 (by rfl) (by exact Or.inl rfl))) qa_nil))) (qg_names (is := [1, 2]) (by rfl) (by rfl) (pgs_namesC (i := 1) (by exact sc.nd) (by rfl) (by exact Or.inl rfl) (pgs_namesC (i := 2) (by exact sc.nd) (by rfl) (by exact Or.inl rfl) pgs_names0))) (qs_one (q_if (by exact (qt_inD (by rfl) (by exact hr.hu2) (by exact (qv 2 (by rfl) (by exact Or.inl rfl))) (by exact (q_slice (by rfl) (by exact (qv 0 (by rfl) (by exact Or.inl rfl))) qo_none (qo_some (by exact (qv 1 (by rfl) (by exact Or.inl rfl)))))))) (qs_one q_neverS) qs_nil))))
abbrev s_describes_table : Stmt := top 18
theorem sc_describes_table : FnScope ["thing", "name", "columns", "keys", "column"] ["thing"] (defScope s_describes_table) := ⟨rfl, rfl, rfl, by decide +kernel, rfl, by decide +kernel, by decide +kernel⟩
abbrev t_describes_table : TSd := KS.t_describes_table
theorem body_describes_table {P : Program} {w : World} {T : Tb} {mg : Str → Option Value} {base : Heap} {f : Addr} (m : Bl mg) (hC : ∀ c, c < nC → ClOk T c) (hL : T.flds = flds) (kit : KitOk T nC sub) (g_Schema : mg "Schema" = some (.ref (T.cls 0))) (c_is_integer : Cal T P w mg base "is_integer" 1 1 sp_is_integer) (c_is_name : Cal T P w mg base "is_name" 1 1 sp_is_name) (cdv : Value) (A : Around) (outer : List Env) (s : Shared) (H : Hp) (E : XK) (hr : RoomG 1 (A.deeper (envOfC "describes_table" (defScope s_describes_table) s.heap.objs.size f cdv))) :
    QSs T (cxOf (L2.CX P w) P w T.K mg base ["thing", "name", "columns", "keys", "column"] "describes_table" (defScope s_describes_table) f cdv A outer s H E) (fun cls d _ H => E cls d H) (defBody s_describes_table) t_describes_table :=
  have sc := sc_describes_table
  (qs_cons (q_if (by exact (QW.qt (qw_or (by exact (qt_not (by exact (qt_val (by exact (q_isi "tuple" (by rfl) (by exact m.isinstance_) (by exact (qa_cons (by exact (qv 0 (by rfl) (by exact Or.inl rfl))) (qa_cons (by exact (q_bltT (by rfl) (by exact m.tuple_) (by rfl))) qa_nil))))))))) (qw_or1 (by exact (qt_ne (by rfl) (by exact hr.hu) (by exact (q_len (by rfl) (by exact m.len_) (by exact (qa_cons (by exact (qv 0 (by rfl) (by exact Or.inl rfl))) qa_nil)))) q_int)))))) (qs_one (q_ret q_bl)) qs_nil)
      (qs_cons (q_asg (by exact (qv 0 (by rfl) (by exact Or.inl rfl))) (qg_names (is := [1, 2, 3]) (by rfl) (by rfl) (pgs_namesC (i := 1) (by exact sc.nd) (by rfl) (by exact Or.inl rfl) (pgs_namesC (i := 2) (by exact sc.nd) (by rfl) (by exact Or.inl rfl) (pgs_namesC (i := 3) (by exact sc.nd) (by rfl) (by exact Or.inl rfl) pgs_names0)))))
      (qs_cons (q_if (by exact (QW.qt (qw_or (by exact (qt_not (by exact (qt_val (by exact (qcl (by exact takes_of rfl rfl rfl rfl) (by rfl) (by exact c_is_name) (by exact hr.mono (by decide)) (by rfl) (by exact (qa_cons (by exact (qv 1 (by rfl) (by exact Or.inl rfl))) qa_nil)))))))) (qw_or (by exact (qt_not (by exact (qt_val (by exact (q_isi "tuple" (by rfl) (by exact m.isinstance_) (by exact (qa_cons (by exact (q_wk (by exact (qv 2 (by rfl) (by exact Or.inl rfl))))) (qa_cons (by exact (q_bltT (by rfl) (by exact m.tuple_) (by rfl))) qa_nil))))))))) (qw_or1 (by exact (qt_not (by exact (qt_leLe q_int (by exact (q_len (by rfl) (by exact m.len_) (by exact (qa_cons (by exact (q_wk (by exact (qv 2 (by rfl) (by exact Or.inl rfl))))) qa_nil)))) q_int))))))))) (qs_one (q_ret q_bl)) qs_nil)
      (qs_cons (q_if (by exact (QW.qt (qw_or (by exact (qt_not (by exact (qt_val (by exact (q_all (by rfl) (by rfl) (by exact m.all_) (by exact (qa_cons (by exact (q_lc (own := [("column", 4)]) (by rfl) (by exact sc.nd) (qi_tup (by exact (q_wk (by exact (qv 2 (by rfl) (by exact Or.inl rfl))))) (by rfl)) (by exact (show BlkOk ["thing", "name", "columns", "keys", "column"] (defScope s_describes_table) _ [("column", 4)] from blkOk_by (by decide +kernel))) (by exact (gok_name 4 (by decide))) (fun s H C cl fp => by exact (pg_name (i := 4) (by exact sc.nd) (by rfl) (by exact Or.inl rfl))) (fun s H C cl fp => by exact qts_nil) (fun s H C cl fp => by exact (by exact (qcl (by exact takes0) (by rfl) (by exact c_is_name) (by exact hr.mono (by decide)) (by rfl) (by exact (qa_cons (by exact (qv 4 (by rfl) (by exact Or.inl rfl))) qa_nil))))))) qa_nil)))))))) (qw_or1 (by exact (qt_lt (by exact (q_lenSet (by rfl) (by rfl) (by exact m.len_) (by exact m.set_) (by exact (q_wk (by exact (qv 2 (by rfl) (by exact Or.inl rfl))))))) (by exact (q_len (by rfl) (by exact m.len_) (by exact (qa_cons (by exact (q_wk (by exact (qv 2 (by rfl) (by exact Or.inl rfl))))) qa_nil)))))))))) (qs_one (q_ret q_bl)) qs_nil)
      (qs_one (q_ret (by exact (q_and (by exact (qcl (by exact takes_of rfl rfl rfl rfl) (by rfl) (by exact c_is_integer) (by exact hr.mono (by decide)) (by rfl) (by exact (qa_cons (by exact (qv 3 (by rfl) (by exact Or.inl rfl))) qa_nil)))) (q_one (by exact (q_leLe q_int (by exact (qv 3 (by rfl) (by exact Or.inl rfl))) (by exact (q_len (by rfl) (by exact m.len_) (by exact (qa_cons (by exact (q_wk (by exact (qv 2 (by rfl) (by exact Or.inl rfl))))) qa_nil)))))))))))))))
abbrev s_check_tables : Stmt := top 19
theorem sc_check_tables : FnScope ["tables", "at", "table"] ["tables"] (defScope s_check_tables) := ⟨rfl, rfl, rfl, by decide +kernel, rfl, by decide +kernel, by decide +kernel⟩
abbrev t_check_tables : TSd := KS.t_check_tables
theorem body_check_tables {P : Program} {w : World} {T : Tb} {mg : Str → Option Value} {base : Heap} {f : Addr} (m : Bl mg) (hC : ∀ c, c < nC → ClOk T c) (hL : T.flds = flds) (kit : KitOk T nC sub) (g_Schema : mg "Schema" = some (.ref (T.cls 0))) (c_check_different : Cal T P w mg base "check_different" 1 1 sp_check_different) (c_describes_table : Cal T P w mg base "describes_table" 2 1 sp_describes_table) (cdv : Value) (A : Around) (outer : List Env) (s : Shared) (H : Hp) (E : XK) (hr : RoomG 2 (A.deeper (envOfC "check_tables" (defScope s_check_tables) s.heap.objs.size f cdv))) :
    QSs T (cxOf (L2.CX P w) P w T.K mg base ["tables", "at", "table"] "check_tables" (defScope s_check_tables) f cdv A outer s H E) (fun cls d _ H => E cls d H) (defBody s_check_tables) t_check_tables :=
  have sc := sc_check_tables
  (qs_cons (q_for (by exact passes_of rfl) (by rfl) (qi_enumS (by rfl) (by exact m.enumerate_) (by exact (qa_cons (by exact (qv 0 (by rfl) (by exact Or.inl rfl))) qa_nil))) (qg_names (is := [1, 2]) (by rfl) (by rfl) (pgs_namesC (i := 1) (by exact sc.nd) (by rfl) (by exact Or.inl rfl) (pgs_namesC (i := 2) (by exact sc.nd) (by rfl) (by exact Or.inl rfl) pgs_names0))) (qs_one (q_if (by exact (qt_not (by exact (qt_val (by exact (qcl (by exact takes_of rfl rfl rfl rfl) (by rfl) (by exact c_describes_table) (by exact hr.mono (by decide)) (by rfl) (by exact (qa_cons (by exact (qv 2 (by rfl) (by exact Or.inl rfl))) qa_nil)))))))) (qs_one q_neverS) qs_nil)))
      (qs_one (q_expr (by exact (qcl (by exact takes_of rfl rfl rfl rfl) (by rfl) (by exact c_check_different) (by exact hr.mono (by decide)) (by rfl) (by exact (qa_cons (by exact (q_lc (own := [("table", 2)]) (by rfl) (by exact sc.nd) (qi_seq (by exact (qv 0 (by rfl) (by exact Or.inl rfl))) (by rfl)) (by exact (show BlkOk ["tables", "at", "table"] (defScope s_check_tables) _ [("table", 2)] from blkOk_by (by decide +kernel))) (by exact (gok_name 2 (by decide))) (fun s H C cl fp => by exact (pg_name (i := 2) (by exact sc.nd) (by rfl) (by exact Or.inl rfl))) (fun s H C cl fp => by exact qts_nil) (fun s H C cl fp => by exact (by exact (q_ix (by rfl) (by exact (qv 2 (by rfl) (by exact Or.inl rfl))) q_int))))) qa_nil)))))))
abbrev s_power : Stmt := top 21
theorem sc_power : FnScope ["base", "times", "result", "_"] ["base", "times"] (defScope s_power) := ⟨rfl, rfl, rfl, by decide +kernel, rfl, by decide +kernel, by decide +kernel⟩
abbrev t_power : TSd := KS.t_power
theorem body_power {P : Program} {w : World} {T : Tb} {mg : Str → Option Value} {base : Heap} {f : Addr} (m : Bl mg) (hC : ∀ c, c < nC → ClOk T c) (hL : T.flds = flds) (kit : KitOk T nC sub) (g_Schema : mg "Schema" = some (.ref (T.cls 0)))  (cdv : Value) (A : Around) (outer : List Env) (s : Shared) (H : Hp) (E : XK) (hr : RoomG 0 (A.deeper (envOfC "power" (defScope s_power) s.heap.objs.size f cdv))) :
    QSs T (cxOf (L2.CX P w) P w T.K mg base ["base", "times", "result", "_"] "power" (defScope s_power) f cdv A outer s H E) (fun cls d _ H => E cls d H) (defBody s_power) t_power :=
  have sc := sc_power
  (qs_cons (q_set (i := 2) (by exact sc.nd) (by rfl) (by exact Or.inl rfl) q_int)
      (qs_cons (q_for (by exact passes_of rfl) (by rfl) (qi_range (by rfl) (by exact m.range_) (by exact (qa_cons (by exact (qv 1 (by rfl) (by exact Or.inl rfl))) qa_nil))) (qg_name (i := 3) (by exact sc.nd) (by rfl) (by exact Or.inl rfl)) (qs_one (q_aug (i := 2) (by exact sc.nd) (by rfl) (by exact Or.inl rfl) (by exact (qv 0 (by rfl) (by exact Or.inl rfl))) ip_mulC oi_mulC)))
      (qs_one (q_ret (by exact (qv 2 (by rfl) (by exact Or.inl rfl)))))))
abbrev s_count_databases : Stmt := top 22
theorem sc_count_databases : FnScope ["size", "tables", "result", "_", "columns", "keys"] ["size", "tables"] (defScope s_count_databases) := ⟨rfl, rfl, rfl, by decide +kernel, rfl, by decide +kernel, by decide +kernel⟩
abbrev t_count_databases : TSd := KS.t_count_databases
theorem body_count_databases {P : Program} {w : World} {T : Tb} {mg : Str → Option Value} {base : Heap} {f : Addr} (m : Bl mg) (hC : ∀ c, c < nC → ClOk T c) (hL : T.flds = flds) (kit : KitOk T nC sub) (g_Schema : mg "Schema" = some (.ref (T.cls 0))) (c_power : Cal T P w mg base "power" 1 2 sp_power) (cdv : Value) (A : Around) (outer : List Env) (s : Shared) (H : Hp) (E : XK) (hr : RoomG 1 (A.deeper (envOfC "count_databases" (defScope s_count_databases) s.heap.objs.size f cdv))) :
    QSs T (cxOf (L2.CX P w) P w T.K mg base ["size", "tables", "result", "_", "columns", "keys"] "count_databases" (defScope s_count_databases) f cdv A outer s H E) (fun cls d _ H => E cls d H) (defBody s_count_databases) t_count_databases :=
  have sc := sc_count_databases
  (qs_cons (q_set (i := 2) (by exact sc.nd) (by rfl) (by exact Or.inl rfl) q_int)
      (qs_cons (q_for (by exact passes_of rfl) (by rfl) (qi_seq (by exact (qv 1 (by rfl) (by exact Or.inl rfl))) (by rfl)) (qg_names (is := [3, 4, 5]) (by rfl) (by rfl) (pgs_namesC (i := 3) (by exact sc.nd) (by rfl) (by exact Or.inl rfl) (pgs_namesC (i := 4) (by exact sc.nd) (by rfl) (by exact Or.inl rfl) (pgs_namesC (i := 5) (by exact sc.nd) (by rfl) (by exact Or.inl rfl) pgs_names0)))) (qs_one (q_aug (i := 2) (by exact sc.nd) (by rfl) (by exact Or.inl rfl) (by exact (qcl (by exact takes_of rfl rfl rfl rfl) (by rfl) (by exact c_power) (by exact hr.mono (by decide)) (by rfl) (by exact (qa_cons (by exact (q_add (by rfl) q_int (by exact (qcl (by exact takes_of rfl rfl rfl rfl) (by rfl) (by exact c_power) (by exact hr.mono (by decide)) (by rfl) (by exact (qa_cons (by exact (qv 0 (by rfl) (by exact Or.inl rfl))) (qa_cons (by exact (q_sub (by exact (q_len (by rfl) (by exact m.len_) (by exact (qa_cons (by exact (q_wk (by exact (qv 4 (by rfl) (by exact Or.inl rfl))))) qa_nil)))) (by exact (qv 5 (by rfl) (by exact Or.inl rfl))))) qa_nil))))))) (qa_cons (by exact (qcl (by exact takes_of rfl rfl rfl rfl) (by rfl) (by exact c_power) (by exact hr.mono (by decide)) (by rfl) (by exact (qa_cons (by exact (qv 0 (by rfl) (by exact Or.inl rfl))) (qa_cons (by exact (qv 5 (by rfl) (by exact Or.inl rfl))) qa_nil))))) qa_nil))))) ip_mulWC oi_mulWC)))
      (qs_one (q_ret (by exact (qv 2 (by rfl) (by exact Or.inl rfl)))))))
abbrev s_Schema___init__ : Stmt := inCls (top 24) 0
theorem sc_Schema___init__ : FnScope ["self", "size", "tables", "table", "_"] ["self", "size", "tables"] (defScope s_Schema___init__) := ⟨rfl, rfl, rfl, by decide +kernel, rfl, by decide +kernel, by decide +kernel⟩
abbrev t_Schema___init__ : TSd := KS.t_Schema___init__
theorem body_Schema___init__ {P : Program} {w : World} {T : Tb} {mg : Str → Option Value} {base : Heap} {f : Addr} (m : Bl mg) (hC : ∀ c, c < nC → ClOk T c) (hL : T.flds = flds) (kit : KitOk T nC sub) (g_Schema : mg "Schema" = some (.ref (T.cls 0))) (c_check_tables : Cal T P w mg base "check_tables" 3 1 sp_check_tables) (c_count_databases : Cal T P w mg base "count_databases" 2 2 sp_count_databases) (c_is_integer : Cal T P w mg base "is_integer" 1 1 sp_is_integer) (cdv : Value) (A : Around) (outer : List Env) (s : Shared) (H : Hp) (E : XK) (hr : RoomG 3 (A.deeper (envOfC "Schema.__init__" (defScope s_Schema___init__) s.heap.objs.size f cdv))) :
    QSs T (cxOf (L2.CX P w) P w T.K mg base ["self", "size", "tables", "table", "_"] "Schema.__init__" (defScope s_Schema___init__) f cdv A outer s H E) (fun cls d _ H => E cls d H) (defBody s_Schema___init__) t_Schema___init__ :=
  have sc := sc_Schema___init__
  (qs_cons (q_if (by exact (QW.qt (qw_or (by exact (qt_not (by exact (qt_val (by exact (qcl (by exact takes_of rfl rfl rfl rfl) (by rfl) (by exact c_is_integer) (by exact hr.mono (by decide)) (by rfl) (by exact (qa_cons (by exact (qv 1 (by rfl) (by exact Or.inl rfl))) qa_nil)))))))) (qw_or1 (by exact (qt_not (by exact (qt_leLe q_int (by exact (qv 1 (by rfl) (by exact Or.inl rfl))) q_int)))))))) (qs_one q_neverS) qs_nil)
      (qs_cons (q_if (by exact (QW.qt (qw_or (by exact (qt_not (by exact (qt_val (by exact (q_isiT ["list", "tuple"] (by rfl) (by exact m.isinstance_) (by exact (qv 2 (by rfl) (by exact Or.inl rfl))) (by exact (tys_cons (by exact m.list_) (by rfl) (tys_cons (by exact m.tuple_) (by rfl) tys_nil))))))))) (qw_or1 (by exact (qt_not (by exact (qt_leLe q_int (by exact (q_len (by rfl) (by exact m.len_) (by exact (qa_cons (by exact (qv 2 (by rfl) (by exact Or.inl rfl))) qa_nil)))) q_int)))))))) (qs_one q_neverS) qs_nil)
      (qs_cons (q_expr (by exact (qcl (by exact takes_of rfl rfl rfl rfl) (by rfl) (by exact c_check_tables) (by exact hr.mono (by decide)) (by rfl) (by exact (qa_cons (by exact (qv 2 (by rfl) (by exact Or.inl rfl))) qa_nil)))))
      (qs_cons (q_setF (by rfl) hC hL (by exact (qv 0 (by rfl) (by exact Or.inl rfl))) (by exact (qv 1 (by rfl) (by exact Or.inl rfl))))
      (qs_cons (q_setF (by rfl) hC hL (by exact (qv 0 (by rfl) (by exact Or.inl rfl))) (by exact (q_tuple (by rfl) (by exact m.tuple_) (by exact (qa_cons (by exact (qv 2 (by rfl) (by exact Or.inl rfl))) qa_nil)))))
      (qs_cons (q_setF (by rfl) hC hL (by exact (qv 0 (by rfl) (by exact Or.inl rfl))) (by exact (q_tupleP (by rfl) (by exact m.tuple_) (by exact (qa_cons (by exact (q_lc (own := [("table", 3)]) (by rfl) (by exact sc.nd) (qi_seq (by exact (qv 2 (by rfl) (by exact Or.inl rfl))) (by rfl)) (by exact (show BlkOk ["self", "size", "tables", "table", "_"] (defScope s_Schema___init__) _ [("table", 3)] from blkOk_by (by decide +kernel))) (by exact (gok_name 3 (by decide))) (fun s H C cl fp => by exact (pg_name (i := 3) (by exact sc.nd) (by rfl) (by exact Or.inl rfl))) (fun s H C cl fp => by exact qts_nil) (fun s H C cl fp => by exact (by exact (q_ix (by rfl) (by exact (qv 3 (by rfl) (by exact Or.inl rfl))) q_int))))) qa_nil)))))
      (qs_cons (q_setF (by rfl) hC hL (by exact (qv 0 (by rfl) (by exact Or.inl rfl))) (by exact (q_dc (own := [("table", 3)]) (by rfl) (by exact sc.nd) (qi_seq (by exact (qv 2 (by rfl) (by exact Or.inl rfl))) (by rfl)) (by exact (show BlkOk ["self", "size", "tables", "table", "_"] (defScope s_Schema___init__) _ [("table", 3)] from blkOk_by (by decide +kernel))) (by exact (gok_name 3 (by decide))) (fun s H C cl fp => by exact (pg_name (i := 3) (by exact sc.nd) (by rfl) (by exact Or.inl rfl))) (fun s H C cl fp => by exact qts_nil) (fun s H C cl fp => by exact (by exact (q_ix (by rfl) (by exact (qv 3 (by rfl) (by exact Or.inl rfl))) q_int))) (fun s H C cl fp => by exact (by exact (q_ix (by rfl) (by exact (qv 3 (by rfl) (by exact Or.inl rfl))) q_int))))))
      (qs_cons (q_setF (by rfl) hC hL (by exact (qv 0 (by rfl) (by exact Or.inl rfl))) (by exact (q_dc (own := [("table", 3)]) (by rfl) (by exact sc.nd) (qi_seq (by exact (qv 2 (by rfl) (by exact Or.inl rfl))) (by rfl)) (by exact (show BlkOk ["self", "size", "tables", "table", "_"] (defScope s_Schema___init__) _ [("table", 3)] from blkOk_by (by decide +kernel))) (by exact (gok_name 3 (by decide))) (fun s H C cl fp => by exact (pg_name (i := 3) (by exact sc.nd) (by rfl) (by exact Or.inl rfl))) (fun s H C cl fp => by exact qts_nil) (fun s H C cl fp => by exact (by exact (q_ix (by rfl) (by exact (qv 3 (by rfl) (by exact Or.inl rfl))) q_int))) (fun s H C cl fp => by exact (by exact (q_ix (by rfl) (by exact (qv 3 (by rfl) (by exact Or.inl rfl))) q_int))))))
      (qs_cons (q_setF (by rfl) hC hL (by exact (qv 0 (by rfl) (by exact Or.inl rfl))) (by exact (q_tuple (by rfl) (by exact m.tuple_) (by exact (qa_cons (by exact (q_lc (own := [("_", 4)]) (by rfl) (by exact sc.nd) (qi_seq (by exact (qv 2 (by rfl) (by exact Or.inl rfl))) (by rfl)) (by exact (show BlkOk ["self", "size", "tables", "table", "_"] (defScope s_Schema___init__) _ [("_", 4)] from blkOk_by (by decide +kernel))) (by exact (gok_name 4 (by decide))) (fun s H C cl fp => by exact (pg_name (i := 4) (by exact sc.nd) (by rfl) (by exact Or.inl rfl))) (fun s H C cl fp => by exact qts_nil) (fun s H C cl fp => by exact (by exact (q_tup qa_nil))))) qa_nil)))))
      (qs_one (q_setF (by rfl) hC hL (by exact (qv 0 (by rfl) (by exact Or.inl rfl))) (by exact (qcl (by exact takes_of rfl rfl rfl rfl) (by rfl) (by exact c_count_databases) (by exact hr.mono (by decide)) (by rfl) (by exact (qa_cons (by exact (qv 1 (by rfl) (by exact Or.inl rfl))) (qa_cons (by exact (qv 2 (by rfl) (by exact Or.inl rfl))) qa_nil))))))))))))))))
abbrev s_Schema_columns : Stmt := inCls (top 24) 4
theorem sc_Schema_columns : FnScope ["self", "name"] ["self", "name"] (defScope s_Schema_columns) := ⟨rfl, rfl, rfl, by decide +kernel, rfl, by decide +kernel, by decide +kernel⟩
abbrev t_Schema_columns : TSd := KS.t_Schema_columns
theorem body_Schema_columns {P : Program} {w : World} {T : Tb} {mg : Str → Option Value} {base : Heap} {f : Addr} (m : Bl mg) (hC : ∀ c, c < nC → ClOk T c) (hL : T.flds = flds) (kit : KitOk T nC sub) (g_Schema : mg "Schema" = some (.ref (T.cls 0)))  (cdv : Value) (A : Around) (outer : List Env) (s : Shared) (H : Hp) (E : XK) (hr : RoomG 0 (A.deeper (envOfC "Schema.columns" (defScope s_Schema_columns) s.heap.objs.size f cdv))) :
    QSs T (cxOf (L2.CX P w) P w T.K mg base ["self", "name"] "Schema.columns" (defScope s_Schema_columns) f cdv A outer s H E) (fun cls d _ H => E cls d H) (defBody s_Schema_columns) t_Schema_columns :=
  have sc := sc_Schema_columns
  (qs_one (q_ret (by exact (q_get (by exact hr.hu) (by exact (q_fld (by rfl) hC hL (by exact (qv 0 (by rfl) (by exact Or.inl rfl))))) (by exact (qv 1 (by rfl) (by exact Or.inl rfl))) nosl_name))))
abbrev s_matches : Stmt := top 13
theorem sc_matches : FnScope ["columns", "row", "where", "column", "value"] ["columns", "row", "where"] (defScope s_matches) := ⟨rfl, rfl, rfl, by decide +kernel, rfl, by decide +kernel, by decide +kernel⟩
def t_matches : TSd :=
  (wRet (wCall (allO fun bs => bs.all id) (wCons (wLc (wiTup (wWk (wVar 2))) (gdTupN [3, 4]) wYes (wOp eqO (wOp ixO (wVar 1) (wTix (wVar 0) (wCons (wVar 3) wNil))) (wVar 4)) [3, 4]) wNil)))
theorem body_matches {P : Program} {w : World} {T : Tb} {mg : Str → Option Value} {base : Heap} {f : Addr} (m : Bl mg) (hC : ∀ c, c < nC → ClOk T c) (hL : T.flds = flds) (kit : KitOk T nC sub) (g_Schema : mg "Schema" = some (.ref (T.cls 0)))  (cdv : Value) (A : Around) (outer : List Env) (s : Shared) (H : Hp) (E : XK) (hr : RoomG 0 (A.deeper (envOfC "matches" (defScope s_matches) s.heap.objs.size f cdv))) :
    QSs T (cxOf (L2.CX P w) P w T.K mg base ["columns", "row", "where", "column", "value"] "matches" (defScope s_matches) f cdv A outer s H E) (fun cls d _ H => E cls d H) (defBody s_matches) t_matches :=
  have sc := sc_matches
  (qs_one (q_ret (by exact (q_all (by rfl) (by rfl) (by exact m.all_) (by exact (qa_cons (by exact (q_lc (own := [("column", 3), ("value", 4)]) (by rfl) (by exact sc.nd) (qi_tup (by exact (q_wk (by exact (qv 2 (by rfl) (by exact Or.inl rfl))))) (by rfl)) (by exact (show BlkOk ["columns", "row", "where", "column", "value"] (defScope s_matches) _ [("column", 3), ("value", 4)] from blkOk_by (by decide +kernel))) (by exact (gok_tup (by rfl) (is := [3, 4]) (by decide))) (fun s H C cl fp => by exact (pg_tup (by rfl) (pgs_namesC (i := 3) (by exact sc.nd) (by rfl) (by exact Or.inl rfl) (pgs_namesC (i := 4) (by exact sc.nd) (by rfl) (by exact Or.inl rfl) pgs_names0)) (by rfl) (by rfl))) (fun s H C cl fp => by exact qts_nil) (fun s H C cl fp => by exact (by exact (q_eq (by rfl) (by exact hr.hu) (by exact (q_ix (by rfl) (by exact (qv 1 (by rfl) (by exact Or.inr (Or.inl rfl)))) (by exact (q_tix (by rfl) (by exact (qv 0 (by rfl) (by exact Or.inr (Or.inl rfl)))) (by exact (qa_cons (by exact (qv 3 (by rfl) (by exact Or.inl rfl))) qa_nil)))))) (by exact (qv 4 (by rfl) (by exact Or.inl rfl)))))))) qa_nil))))))
abbrev s_put : Stmt := top 14
theorem sc_put : FnScope ["columns", "row", "sets", "values", "column", "value"] ["columns", "row", "sets"] (defScope s_put) := ⟨rfl, rfl, rfl, by decide +kernel, rfl, by decide +kernel, by decide +kernel⟩
def t_put : TSd :=
  (wSeq (wSet 3 (wDc (wiTup (wWk (wVar 2))) (gdTupN [4, 5]) wYes (wVar 4) (wVar 5) [4, 5]))
  (wRet (wCall tupleO (wCons (wLc (wiZip (wCons (wWk (wVar 0)) (wCons (wVar 1) wNil))) (gdTupN [4, 5]) wYes (wDGet2 (wVar 3) (wVar 4) (wVar 5)) [4, 5]) wNil))))
theorem body_put {P : Program} {w : World} {T : Tb} {mg : Str → Option Value} {base : Heap} {f : Addr} (m : Bl mg) (hC : ∀ c, c < nC → ClOk T c) (hL : T.flds = flds) (kit : KitOk T nC sub) (g_Schema : mg "Schema" = some (.ref (T.cls 0)))  (cdv : Value) (A : Around) (outer : List Env) (s : Shared) (H : Hp) (E : XK) (hr : RoomG 0 (A.deeper (envOfC "put" (defScope s_put) s.heap.objs.size f cdv))) :
    QSs T (cxOf (L2.CX P w) P w T.K mg base ["columns", "row", "sets", "values", "column", "value"] "put" (defScope s_put) f cdv A outer s H E) (fun cls d _ H => E cls d H) (defBody s_put) t_put :=
  have sc := sc_put
  (qs_cons (q_set (i := 3) (by exact sc.nd) (by rfl) (by exact Or.inr rfl) (by exact (q_dc (own := [("column", 4), ("value", 5)]) (by rfl) (by exact sc.nd) (qi_tup (by exact (q_wk (by exact (qv 2 (by rfl) (by exact Or.inl rfl))))) (by rfl)) (by exact (show BlkOk ["columns", "row", "sets", "values", "column", "value"] (defScope s_put) _ [("column", 4), ("value", 5)] from blkOk_by (by decide +kernel))) (by exact (gok_tup (by rfl) (is := [4, 5]) (by decide))) (fun s H C cl fp => by exact (pg_tup (by rfl) (pgs_namesC (i := 4) (by exact sc.nd) (by rfl) (by exact Or.inl rfl) (pgs_namesC (i := 5) (by exact sc.nd) (by rfl) (by exact Or.inl rfl) pgs_names0)) (by rfl) (by rfl))) (fun s H C cl fp => by exact qts_nil) (fun s H C cl fp => by exact (by exact (qv 4 (by rfl) (by exact Or.inl rfl)))) (fun s H C cl fp => by exact (by exact (qv 5 (by rfl) (by exact Or.inl rfl)))))))
      (qs_one (q_ret (by exact (q_tuple (by rfl) (by exact m.tuple_) (by exact (qa_cons (by exact (q_lc (own := [("column", 4), ("value", 5)]) (by rfl) (by exact sc.nd) (qi_zip (by rfl) (by exact m.zip_) (by exact (qa_cons (by exact (q_wk (by exact (qv 0 (by rfl) (by exact Or.inl rfl))))) (qa_cons (by exact (qv 1 (by rfl) (by exact Or.inl rfl))) qa_nil)))) (by exact (show BlkOk ["columns", "row", "sets", "values", "column", "value"] (defScope s_put) _ [("column", 4), ("value", 5)] from blkOk_by (by decide +kernel))) (by exact (gok_tup (by rfl) (is := [4, 5]) (by decide))) (fun s H C cl fp => by exact (pg_tup (by rfl) (pgs_namesC (i := 4) (by exact sc.nd) (by rfl) (by exact Or.inl rfl) (pgs_namesC (i := 5) (by exact sc.nd) (by rfl) (by exact Or.inl rfl) pgs_names0)) (by rfl) (by rfl))) (fun s H C cl fp => by exact qts_nil) (fun s H C cl fp => by exact (by exact (q_dget2 (by exact hr.hu) (by exact (qv 3 (by rfl) (by exact Or.inr (Or.inl rfl)))) (by exact (qv 4 (by rfl) (by exact Or.inl rfl))) (by exact (qv 5 (by rfl) (by exact Or.inl rfl)))))))) qa_nil)))))))
abbrev s_hits : Stmt := top 16
theorem sc_hits : FnScope ["schema", "statement", "database", "kind", "table", "rest", "columns", "content", "found", "row"] ["schema", "statement", "database"] (defScope s_hits) := ⟨rfl, rfl, rfl, by decide +kernel, rfl, by decide +kernel, by decide +kernel⟩
def t_hits : TSd :=
  (wSeq (wAsg (wSl slO (wVar 1) wNoPart (wPart (wC (.int 3)))) (gdTupN [3, 4, 5]))
  (wSeq (wIfS (wTest (wOp inTxO (wVar 3) (wTup (wCons (wC (.str "insert")) (wCons (wC (.str "offer")) wNil))))) (wRet (wLstM (wCons (wTup (wCons (wC .non) (wCons (wVar 5) wNil))) wNil))) wNext)
  (wSeq (wSet 6 (wMeth 0 sp_Schema_columns (wVar 0) (wCons (wVar 4) wNil)))
  (wSeq (wSet 7 (wOp ixO (wVar 2) (wTix (wFld nC flds "names" (wVar 0)) (wCons (wVar 4) wNil))))
  (wSeq (wSet 8 (wLc (wiTup (wVar 7)) (gdName 9) (wTest (wFn sp_matches (wCons (wVar 6) (wCons (wVar 9) (wCons (wVar 5) wNil))))) (wVar 9) [9]))
  (wSeq (wIfS (wTest (wOp eqO (wVar 3) (wC (.str "delete")))) (wRet (wLcM (wiLst (wVar 8)) (gdName 9) wYes (wTup (wCons (wVar 9) (wCons (wC .non) wNil))) [9])) wNext)
  (wRet (wLcM (wiLst (wVar 8)) (gdName 9) wYes (wTup (wCons (wVar 9) (wCons (wFn sp_put (wCons (wVar 6) (wCons (wVar 9) (wCons (wOp ixO (wVar 1) (wC (.int 3))) wNil)))) wNil))) [9]))))))))
theorem body_hits {P : Program} {w : World} {T : Tb} {mg : Str → Option Value} {base : Heap} {f : Addr} (m : Bl mg) (hC : ∀ c, c < nC → ClOk T c) (hL : T.flds = flds) (kit : KitOk T nC sub) (g_Schema : mg "Schema" = some (.ref (T.cls 0))) (c_Schema_columns : CalM T P w mg base 0 "columns" 1 sp_Schema_columns) (c_matches : Cal T P w mg base "matches" 1 3 sp_matches) (c_put : Cal T P w mg base "put" 1 3 sp_put) (cdv : Value) (A : Around) (outer : List Env) (s : Shared) (H : Hp) (E : XK) (hr : RoomG 1 (A.deeper (envOfC "hits" (defScope s_hits) s.heap.objs.size f cdv))) :
    QSs T (cxOf (L2.CX P w) P w T.K mg base ["schema", "statement", "database", "kind", "table", "rest", "columns", "content", "found", "row"] "hits" (defScope s_hits) f cdv A outer s H E) (fun cls d _ H => E cls d H) (defBody s_hits) t_hits :=
  have sc := sc_hits
  (qs_cons (q_asg (by exact (q_slice (by rfl) (by exact (qv 1 (by rfl) (by exact Or.inr (Or.inl rfl)))) qo_none (qo_some q_int))) (qg_names (is := [3, 4, 5]) (by rfl) (by rfl) (pgs_namesC (i := 3) (by exact sc.nd) (by rfl) (by exact Or.inl rfl) (pgs_namesC (i := 4) (by exact sc.nd) (by rfl) (by exact Or.inl rfl) (pgs_namesC (i := 5) (by exact sc.nd) (by rfl) (by exact Or.inr rfl) pgs_names0)))))
      (qs_cons (q_if (by exact (qt_inTx (by rfl) (by exact hr.hu2) (by exact (qv 3 (by rfl) (by exact Or.inl rfl))) (by exact (q_tup (by exact (qa_cons q_str (qa_cons q_str qa_nil))))))) (qs_one (q_ret (by exact (q_lstM (by exact (qa_cons (by exact (q_tup (by exact (qa_cons q_non (qa_cons (by exact (qv 5 (by rfl) (by exact Or.inr (Or.inl rfl)))) qa_nil))))) qa_nil)))))) qs_nil)
      (qs_cons (q_set (i := 6) (by exact sc.nd) (by rfl) (by exact Or.inr rfl) (by exact (q_meth (by exact takes_of rfl rfl rfl rfl) (by rfl) (by exact c_Schema_columns) (by exact hC 0 (by decide)) (by rw [hL]; decide) (by exact hr.mono (by decide)) (by exact (qv 0 (by rfl) (by exact Or.inl rfl))) (by exact (qa_cons (by exact (qv 4 (by rfl) (by exact Or.inl rfl))) qa_nil)))))
      (qs_cons (q_set (i := 7) (by exact sc.nd) (by rfl) (by exact Or.inl rfl) (by exact (q_ix (by rfl) (by exact (qv 2 (by rfl) (by exact Or.inl rfl))) (by exact (q_tix (by rfl) (by exact (q_fld (by rfl) hC hL (by exact (qv 0 (by rfl) (by exact Or.inl rfl))))) (by exact (qa_cons (by exact (qv 4 (by rfl) (by exact Or.inl rfl))) qa_nil)))))))
      (qs_cons (q_setLc (i := 8) (own := [("row", 9)]) (by rfl) (by exact sc.nd) (by rfl) (by rfl) (by rfl) (qi_tup (by exact (qv 7 (by rfl) (by exact Or.inl rfl))) (by rfl)) (by exact (show BlkOk ["schema", "statement", "database", "kind", "table", "rest", "columns", "content", "found", "row"] (defScope s_hits) _ [("row", 9)] from blkOk_by (by decide +kernel))) (by exact (gok_name 9 (by decide))) (fun s H C cl fp => by exact (pg_name (i := 9) (by exact sc.nd) (by rfl) (by exact Or.inl rfl))) (fun s H C cl fp => by exact (qts_one (by exact (qt_val (by exact (qcl (by exact takes0) (by rfl) (by exact c_matches) (by exact hr.mono (by decide)) (by rfl) (by exact (qa_cons (by exact (qv 6 (by rfl) (by exact Or.inr (Or.inl rfl)))) (qa_cons (by exact (qv 9 (by rfl) (by exact Or.inl rfl))) (qa_cons (by exact (qv 5 (by rfl) (by exact Or.inr (Or.inl rfl)))) qa_nil)))))))))) (fun s H C cl fp => by exact (by exact (qv 9 (by rfl) (by exact Or.inl rfl)))))
      (qs_cons (q_if (by exact (qt_eq (by rfl) (by exact hr.hu) (by exact (qv 3 (by rfl) (by exact Or.inl rfl))) q_str)) (qs_one (q_ret (by exact (q_lcM (own := [("row", 9)]) (by rfl) (by exact sc.nd) (qi_lst (by exact (qv 8 (by rfl) (by exact Or.inl rfl))) (by rfl)) (by exact (show BlkOk ["schema", "statement", "database", "kind", "table", "rest", "columns", "content", "found", "row"] (defScope s_hits) _ [("row", 9)] from blkOk_by (by decide +kernel))) (by exact (gok_name 9 (by decide))) (fun s H C cl fp => by exact (pg_name (i := 9) (by exact sc.nd) (by rfl) (by exact Or.inl rfl))) (fun s H C cl fp => by exact qts_nil) (fun s H C cl fp => by exact (by exact (q_tup (by exact (qa_cons (by exact (qv 9 (by rfl) (by exact Or.inl rfl))) (qa_cons q_non qa_nil)))))))))) qs_nil)
      (qs_one (q_ret (by exact (q_lcM (own := [("row", 9)]) (by rfl) (by exact sc.nd) (qi_lst (by exact (qv 8 (by rfl) (by exact Or.inl rfl))) (by rfl)) (by exact (show BlkOk ["schema", "statement", "database", "kind", "table", "rest", "columns", "content", "found", "row"] (defScope s_hits) _ [("row", 9)] from blkOk_by (by decide +kernel))) (by exact (gok_name 9 (by decide))) (fun s H C cl fp => by exact (pg_name (i := 9) (by exact sc.nd) (by rfl) (by exact Or.inl rfl))) (fun s H C cl fp => by exact qts_nil) (fun s H C cl fp => by exact (by exact (q_tup (by exact (qa_cons (by exact (qv 9 (by rfl) (by exact Or.inl rfl))) (qa_cons (by exact (qcl (by exact takes0) (by rfl) (by exact c_put) (by exact hr.mono (by decide)) (by rfl) (by exact (qa_cons (by exact (qv 6 (by rfl) (by exact Or.inr (Or.inl rfl)))) (qa_cons (by exact (qv 9 (by rfl) (by exact Or.inl rfl))) (qa_cons (by exact (q_ix (by rfl) (by exact (qv 1 (by rfl) (by exact Or.inr (Or.inl rfl)))) q_int)) qa_nil)))))) qa_nil))))))))))))))))
abbrev s_law_bag : Stmt := top 26
theorem sc_law_bag : FnScope ["_law_script", "_law_cell"] ["_law_script"] (defScope s_law_bag) := ⟨rfl, rfl, rfl, by decide +kernel, rfl, by decide +kernel, by decide +kernel⟩
abbrev t_law_bag : TSd := KL.t_law_bag
theorem body_law_bag {P : Program} {w : World} {T : Tb} {mg : Str → Option Value} {base : Heap} {f : Addr} (m : Bl mg) (hC : ∀ c, c < nC → ClOk T c) (hL : T.flds = flds) (kit : KitOk T nC sub) (g_Schema : mg "Schema" = some (.ref (T.cls 0)))  (cdv : Value) (A : Around) (outer : List Env) (s : Shared) (H : Hp) (E : XK) (hr : RoomG 0 (A.deeper (envOfC "_law_bag" (defScope s_law_bag) s.heap.objs.size f cdv))) :
    QSs T (cxOf (L2.CX P w) P w T.K mg base ["_law_script", "_law_cell"] "_law_bag" (defScope s_law_bag) f cdv A outer s H E) (fun cls d _ H => E cls d H) (defBody s_law_bag) t_law_bag :=
  have sc := sc_law_bag
  (qs_one (q_ret (by exact (q_lstM (by exact (qa_cons q_int (qa_cons q_int (qa_cons q_int (qa_cons (by exact (q_lc (own := [("_law_cell", 1)]) (by rfl) (by exact sc.nd) (qi_lst (by exact (q_slice (by rfl) (by exact (qv 0 (by rfl) (by exact Or.inl rfl))) qo_none (qo_some q_int))) (by rfl)) (by exact (show BlkOk ["_law_script", "_law_cell"] (defScope s_law_bag) _ [("_law_cell", 1)] from blkOk_by (by decide +kernel))) (by exact (gok_name 1 (by decide))) (fun s H C cl fp => by exact (pg_name (i := 1) (by exact sc.nd) (by rfl) (by exact Or.inl rfl))) (fun s H C cl fp => by exact qts_nil) (fun s H C cl fp => by exact (by exact (q_abs (by exact m.abs_) (by exact (qa_cons (by exact (qv 1 (by rfl) (by exact Or.inl rfl))) qa_nil))))))) qa_nil)))))))))
abbrev s_law_take : Stmt := top 27
theorem sc_law_take : FnScope ["_law_bag_here", "_law_many", "_law_cell", "_law_value", "_law_first", "_law_second"] ["_law_bag_here", "_law_many"] (defScope s_law_take) := ⟨rfl, rfl, rfl, by decide +kernel, rfl, by decide +kernel, by decide +kernel⟩
abbrev t_law_take : TSd := KL.t_law_take
theorem body_law_take {P : Program} {w : World} {T : Tb} {mg : Str → Option Value} {base : Heap} {f : Addr} (m : Bl mg) (hC : ∀ c, c < nC → ClOk T c) (hL : T.flds = flds) (kit : KitOk T nC sub) (g_Schema : mg "Schema" = some (.ref (T.cls 0)))  (cdv : Value) (A : Around) (outer : List Env) (s : Shared) (H : Hp) (E : XK) (hr : RoomG 0 (A.deeper (envOfC "_law_take" (defScope s_law_take) s.heap.objs.size f cdv))) :
    QSs T (cxOf (L2.CX P w) P w T.K mg base ["_law_bag_here", "_law_many", "_law_cell", "_law_value", "_law_first", "_law_second"] "_law_take" (defScope s_law_take) f cdv A outer s H E) (fun cls d _ H => E cls d H) (defBody s_law_take) t_law_take :=
  have sc := sc_law_take
  (qs_cons (q_if (by exact (qt_eq (by rfl) (by exact hr.hu) (by exact (q_ix (by rfl) (by exact (qv 0 (by rfl) (by exact Or.inl rfl))) q_int)) q_int)) (qs_cons (q_set (i := 2) (by exact sc.nd) (by rfl) (by exact Or.inl rfl) q_int)
      (qs_cons (q_if (by exact (qt_lt (by exact (q_ix (by rfl) (by exact (qv 0 (by rfl) (by exact Or.inl rfl))) q_int)) (by exact (q_len (by rfl) (by exact m.len_) (by exact (qa_cons (by exact (q_ix (by rfl) (by exact (qv 0 (by rfl) (by exact Or.inl rfl))) q_int)) qa_nil)))))) (qs_one (q_set (i := 2) (by exact sc.nd) (by rfl) (by exact Or.inl rfl) (by exact (q_ix (by rfl) (by exact (q_ix (by rfl) (by exact (qv 0 (by rfl) (by exact Or.inl rfl))) q_int)) (by exact (q_ix (by rfl) (by exact (qv 0 (by rfl) (by exact Or.inl rfl))) q_int)))))) qs_nil)
      (qs_cons (q_augI (by rfl) (by exact (qv 0 (by rfl) (by exact Or.inl rfl))) q_int q_int ip_add oi_ipI)
      (qs_cons (q_if (by exact (qt_ge (by exact (qv 2 (by rfl) (by exact Or.inl rfl))) q_int)) (qs_one (q_setI (by exact (qv 2 (by rfl) (by exact Or.inl rfl))) (by exact (qv 0 (by rfl) (by exact Or.inl rfl))) q_int)) qs_nil)
      (qs_one (q_setI (by exact (q_mod (by exact (q_add (by rfl) (by exact (q_add (by rfl) (by exact (q_mulD (by rfl) (by exact (q_ix (by rfl) (by exact (qv 0 (by rfl) (by exact Or.inl rfl))) q_int)) q_int)) (by exact (q_mod (by exact (qv 2 (by rfl) (by exact Or.inl rfl))) q_int)))) (by exact (q_mulD (by rfl) q_int (by exact (q_ix (by rfl) (by exact (qv 0 (by rfl) (by exact Or.inl rfl))) q_int)))))) q_int)) (by exact (qv 0 (by rfl) (by exact Or.inl rfl))) q_int)))))) qs_nil)
      (qs_cons (q_if (by exact (qt_gt (by exact (q_ix (by rfl) (by exact (qv 0 (by rfl) (by exact Or.inl rfl))) q_int)) q_int)) (qs_cons (q_set (i := 3) (by exact sc.nd) (by rfl) (by exact Or.inl rfl) (by exact (q_mod (by exact (q_ix (by rfl) (by exact (qv 0 (by rfl) (by exact Or.inl rfl))) q_int)) (by exact (qv 1 (by rfl) (by exact Or.inl rfl))))))
      (qs_cons (q_setI (by exact (q_fdiv (by exact (q_ix (by rfl) (by exact (qv 0 (by rfl) (by exact Or.inl rfl))) q_int)) (by exact (qv 1 (by rfl) (by exact Or.inl rfl))))) (by exact (qv 0 (by rfl) (by exact Or.inl rfl))) q_int)
      (qs_one (q_ret (by exact (qv 3 (by rfl) (by exact Or.inl rfl))))))) qs_nil)
      (qs_cons (q_set (i := 4) (by exact sc.nd) (by rfl) (by exact Or.inl rfl) (by exact (q_mod (by exact (q_mulD (by rfl) (by exact (q_add (by rfl) (by exact (q_ix (by rfl) (by exact (qv 0 (by rfl) (by exact Or.inl rfl))) q_int)) q_int)) q_int)) q_int)))
      (qs_cons (q_set (i := 5) (by exact sc.nd) (by rfl) (by exact Or.inl rfl) (by exact (q_mod (by exact (q_mulD (by rfl) (by exact (q_mod (by exact (q_mulD (by rfl) (by exact (qv 4 (by rfl) (by exact Or.inl rfl))) (by exact (qv 4 (by rfl) (by exact Or.inl rfl))))) q_int)) q_int)) q_int)))
      (qs_cons (q_if (by exact (qt_gt (by exact (qv 1 (by rfl) (by exact Or.inl rfl))) q_int)) (qs_one (q_ret (by exact (q_mod (by exact (q_add (by rfl) (by exact (q_mulD (by rfl) (by exact (qv 5 (by rfl) (by exact Or.inl rfl))) q_int)) (by exact (qv 4 (by rfl) (by exact Or.inl rfl))))) (by exact (qv 1 (by rfl) (by exact Or.inl rfl))))))) qs_nil)
      (qs_one (q_ret (by exact (q_mod (by exact (q_fdiv (by exact (qv 5 (by rfl) (by exact Or.inl rfl))) q_int)) (by exact (qv 1 (by rfl) (by exact Or.inl rfl))))))))))))
abbrev s_law_alike : Stmt := top 28
theorem sc_law_alike : FnScope ["_law_found_here", "_law_due"] ["_law_found_here", "_law_due"] (defScope s_law_alike) := ⟨rfl, rfl, rfl, by decide +kernel, rfl, by decide +kernel, by decide +kernel⟩
def t_law_alike : TSd :=
  (wRet (wAnd (wOp eqO (wVar 0) (wVar 1)) (wOp eqO (wCall reprLO (wCons (wVar 0) wNil)) (wCall reprLO (wCons (wVar 1) wNil)))))
theorem body_law_alike {P : Program} {w : World} {T : Tb} {mg : Str → Option Value} {base : Heap} {f : Addr} (m : Bl mg) (hC : ∀ c, c < nC → ClOk T c) (hL : T.flds = flds) (kit : KitOk T nC sub) (g_Schema : mg "Schema" = some (.ref (T.cls 0)))  (cdv : Value) (A : Around) (outer : List Env) (s : Shared) (H : Hp) (E : XK) (hr : RoomG 0 (A.deeper (envOfC "_law_alike" (defScope s_law_alike) s.heap.objs.size f cdv))) :
    QSs T (cxOf (L2.CX P w) P w T.K mg base ["_law_found_here", "_law_due"] "_law_alike" (defScope s_law_alike) f cdv A outer s H E) (fun cls d _ H => E cls d H) (defBody s_law_alike) t_law_alike :=
  have sc := sc_law_alike
  (qs_one (q_ret (by exact (q_and (by exact (q_eq (by rfl) (by exact hr.hu) (by exact (qv 0 (by rfl) (by exact Or.inl rfl))) (by exact (qv 1 (by rfl) (by exact Or.inl rfl))))) (q_one (by exact (q_eq (by rfl) (by exact hr.hu) (by exact (q_reprL (by rfl) (by exact hr.g) (by exact hr.hu) (by exact m.repr_) (by exact (qa_cons (by exact (qv 0 (by rfl) (by exact Or.inl rfl))) qa_nil)))) (by exact (q_reprL (by rfl) (by exact hr.g) (by exact hr.hu) (by exact m.repr_) (by exact (qa_cons (by exact (qv 1 (by rfl) (by exact Or.inl rfl))) qa_nil)))))))))))
abbrev s_law_one : Stmt := top 29
theorem sc_law_one : FnScope ["_law_bag_here", "_law_things"] ["_law_bag_here", "_law_things"] (defScope s_law_one) := ⟨rfl, rfl, rfl, by decide +kernel, rfl, by decide +kernel, by decide +kernel⟩
abbrev t_law_one : TSd := KS.t_law_one
theorem body_law_one {P : Program} {w : World} {T : Tb} {mg : Str → Option Value} {base : Heap} {f : Addr} (m : Bl mg) (hC : ∀ c, c < nC → ClOk T c) (hL : T.flds = flds) (kit : KitOk T nC sub) (g_Schema : mg "Schema" = some (.ref (T.cls 0))) (c__law_take : Cal T P w mg base "_law_take" 1 2 sp_law_take) (cdv : Value) (A : Around) (outer : List Env) (s : Shared) (H : Hp) (E : XK) (hr : RoomG 1 (A.deeper (envOfC "_law_one" (defScope s_law_one) s.heap.objs.size f cdv))) :
    QSs T (cxOf (L2.CX P w) P w T.K mg base ["_law_bag_here", "_law_things"] "_law_one" (defScope s_law_one) f cdv A outer s H E) (fun cls d _ H => E cls d H) (defBody s_law_one) t_law_one :=
  have sc := sc_law_one
  (qs_one (q_ret (by exact (q_ix (by rfl) (by exact (qv 1 (by rfl) (by exact Or.inl rfl))) (by exact (qcl (by exact takes_of rfl rfl rfl rfl) (by rfl) (by exact c__law_take) (by exact hr.mono (by decide)) (by rfl) (by exact (qa_cons (by exact (qv 0 (by rfl) (by exact Or.inl rfl))) (qa_cons (by exact (q_len (by rfl) (by exact m.len_) (by exact (qa_cons (by exact (qv 1 (by rfl) (by exact Or.inl rfl))) qa_nil)))) qa_nil)))))))))
abbrev s_law_world : Stmt := top 30
theorem sc_law_world : FnScope ["_law_bag_here", "_law_shapes_here", "_law_parts", "_law_names", "_law_tables", "_law_part", "_law_columns", "_law_some", "_law_k"] ["_law_bag_here", "_law_shapes_here"] (defScope s_law_world) := ⟨rfl, rfl, rfl, by decide +kernel, rfl, by decide +kernel, by decide +kernel⟩
abbrev t_law_world : TSd := KW.t_law_world2
theorem body_law_world {P : Program} {w : World} {T : Tb} {mg : Str → Option Value} {base : Heap} {f : Addr} (m : Bl mg) (hC : ∀ c, c < nC → ClOk T c) (hL : T.flds = flds) (kit : KitOk T nC sub) (g_Schema : mg "Schema" = some (.ref (T.cls 0))) (c__law_one : Cal T P w mg base "_law_one" 2 2 sp_law_one) (c__law_take : Cal T P w mg base "_law_take" 1 2 sp_law_take) (cdv : Value) (A : Around) (outer : List Env) (s : Shared) (H : Hp) (E : XK) (hr : RoomG 2 (A.deeper (envOfC "_law_world" (defScope s_law_world) s.heap.objs.size f cdv))) :
    QSs T (cxOf (L2.CX P w) P w T.K mg base ["_law_bag_here", "_law_shapes_here", "_law_parts", "_law_names", "_law_tables", "_law_part", "_law_columns", "_law_some", "_law_k"] "_law_world" (defScope s_law_world) f cdv A outer s H E) (fun cls d _ H => E cls d H) (defBody s_law_world) t_law_world :=
  have sc := sc_law_world
  (qs_cons (q_par (i := 2) (j := 3) (by rfl) (by exact sc.nd) (by rfl) (by rfl) (by decide) (by rfl) (by rfl) (by exact (qa_cons (by exact (q_split (by exact (qcl (by exact takes_of rfl rfl rfl rfl) (by rfl) (by exact c__law_one) (by exact hr.mono (by decide)) (by rfl) (by exact (qa_cons (by exact (qv 0 (by rfl) (by exact Or.inr (Or.inl rfl)))) (qa_cons (by exact (qv 1 (by rfl) (by exact Or.inl rfl))) qa_nil))))) (by exact (qa_cons q_str qa_nil)))) (qa_cons (by exact (q_lstM (by exact (qa_cons q_str (qa_cons q_str (qa_cons q_str (qa_cons q_str (qa_cons q_str (qa_cons q_str qa_nil))))))))) qa_nil))) (by rfl))
      (qs_cons (q_set (i := 4) (by exact sc.nd) (by rfl) (by exact Or.inl rfl) (by exact (q_lstM qa_nil)))
      (qs_cons (q_for (by exact passes_of rfl) (by rfl) (qi_lst (by exact (q_slice (by rfl) (by exact (qv 2 (by rfl) (by exact Or.inl rfl))) (qo_some q_int) qo_none)) (by rfl)) (qg_name (i := 5) (by exact sc.nd) (by rfl) (by exact Or.inl rfl)) (qs_cons (q_set (i := 6) (by exact sc.nd) (by rfl) (by exact Or.inr rfl) (by exact (q_lstM (by exact (qa_cons q_str (qa_cons q_str (qa_cons q_str (qa_cons q_str (qa_cons q_str (qa_cons q_str qa_nil))))))))))
      (qs_cons (q_setLc (i := 7) (own := [("_law_k", 8)]) (by rfl) (by exact sc.nd) (by rfl) (by rfl) (by rfl) (qi_range (by rfl) (by exact m.range_) (by exact (qa_cons (by exact (q_intS (by exact m.int_) (by exact (qa_cons (by exact (q_ix (by rfl) (by exact (qv 5 (by rfl) (by exact Or.inl rfl))) q_int)) qa_nil)))) qa_nil))) (by exact (show BlkOk ["_law_bag_here", "_law_shapes_here", "_law_parts", "_law_names", "_law_tables", "_law_part", "_law_columns", "_law_some", "_law_k"] (defScope s_law_world) _ [("_law_k", 8)] from blkOk_by (by decide +kernel))) (by exact (gok_name 8 (by decide))) (fun s H C cl fp => by exact (pg_name (i := 8) (by exact sc.nd) (by rfl) (by exact Or.inl rfl))) (fun s H C cl fp => by exact qts_nil) (fun s H C cl fp => by exact (by exact (q_popAt (by rfl) (by exact (qv 6 (by rfl) (by exact Or.inr (Or.inl rfl)))) (by exact (qa_cons (by exact (qcl (by exact takes0) (by rfl) (by exact c__law_take) (by exact hr.mono (by decide)) (by rfl) (by exact (qa_cons (by exact (qv 0 (by rfl) (by exact Or.inr (Or.inl rfl)))) (qa_cons (by exact (q_len (by rfl) (by exact m.len_) (by exact (qa_cons (by exact (qv 6 (by rfl) (by exact Or.inr (Or.inl rfl)))) qa_nil)))) qa_nil))))) qa_nil))))))
      (qs_one (q_expr (by exact (q_appendL (by rfl) (by exact (qv 4 (by rfl) (by exact Or.inl rfl))) (by exact (qa_cons (by exact (q_tup (by exact (qa_cons (by exact (q_popAt (by rfl) (by exact (qv 3 (by rfl) (by exact Or.inl rfl))) (by exact (qa_cons (by exact (qcl (by exact takes_of rfl rfl rfl rfl) (by rfl) (by exact c__law_take) (by exact hr.mono (by decide)) (by rfl) (by exact (qa_cons (by exact (qv 0 (by rfl) (by exact Or.inr (Or.inl rfl)))) (qa_cons (by exact (q_len (by rfl) (by exact m.len_) (by exact (qa_cons (by exact (qv 3 (by rfl) (by exact Or.inl rfl))) qa_nil)))) qa_nil))))) qa_nil)))) (qa_cons (by exact (q_tupleP (by rfl) (by exact m.tuple_) (by exact (qa_cons (by exact (qv 7 (by rfl) (by exact Or.inl rfl))) qa_nil)))) (qa_cons (by exact (q_intS (by exact m.int_) (by exact (qa_cons (by exact (q_ix (by rfl) (by exact (qv 5 (by rfl) (by exact Or.inl rfl))) q_int)) qa_nil)))) qa_nil)))))) qa_nil)))))))))
      (qs_one (q_ret (by exact (q_disp (qp_cons q_str (by exact (q_intS (by exact m.int_) (by exact (qa_cons (by exact (q_ix (by rfl) (by exact (qv 2 (by rfl) (by exact Or.inl rfl))) q_int)) qa_nil)))) (qp_cons q_str (by exact (q_frz (by exact (qv 4 (by rfl) (by exact Or.inl rfl))))) (qp_cons q_str (by exact (q_lst qa_nil)) (qp_cons q_str (by exact (q_lst qa_nil)) qp_nil)))))))))))
abbrev s_law_row : Stmt := top 31
theorem sc_law_row : FnScope ["_law_bag_here", "_law_world_here", "_law_table_here", "_law_column"] ["_law_bag_here", "_law_world_here", "_law_table_here"] (defScope s_law_row) := ⟨rfl, rfl, rfl, by decide +kernel, rfl, by decide +kernel, by decide +kernel⟩
abbrev t_law_row : TSd := KR.t_law_row
theorem body_law_row {P : Program} {w : World} {T : Tb} {mg : Str → Option Value} {base : Heap} {f : Addr} (m : Bl mg) (hC : ∀ c, c < nC → ClOk T c) (hL : T.flds = flds) (kit : KitOk T nC sub) (g_Schema : mg "Schema" = some (.ref (T.cls 0))) (c__law_take : Cal T P w mg base "_law_take" 1 2 sp_law_take) (cdv : Value) (A : Around) (outer : List Env) (s : Shared) (H : Hp) (E : XK) (hr : RoomG 1 (A.deeper (envOfC "_law_row" (defScope s_law_row) s.heap.objs.size f cdv))) :
    QSs T (cxOf (L2.CX P w) P w T.K mg base ["_law_bag_here", "_law_world_here", "_law_table_here", "_law_column"] "_law_row" (defScope s_law_row) f cdv A outer s H E) (fun cls d _ H => E cls d H) (defBody s_law_row) t_law_row :=
  have sc := sc_law_row
  (qs_one (q_ret (by exact (q_tuple (by rfl) (by exact m.tuple_) (by exact (qa_cons (by exact (q_lc (own := [("_law_column", 3)]) (by rfl) (by exact sc.nd) (qi_tup (by exact (q_wk (by exact (q_ix (by rfl) (by exact (qv 2 (by rfl) (by exact Or.inl rfl))) q_int)))) (by rfl)) (by exact (show BlkOk ["_law_bag_here", "_law_world_here", "_law_table_here", "_law_column"] (defScope s_law_row) _ [("_law_column", 3)] from blkOk_by (by decide +kernel))) (by exact (gok_name 3 (by decide))) (fun s H C cl fp => by exact (pg_name (i := 3) (by exact sc.nd) (by rfl) (by exact Or.inl rfl))) (fun s H C cl fp => by exact qts_nil) (fun s H C cl fp => by exact (by exact (qcl (by exact takes0) (by rfl) (by exact c__law_take) (by exact hr.mono (by decide)) (by rfl) (by exact (qa_cons (by exact (qv 0 (by rfl) (by exact Or.inr (Or.inl rfl)))) (qa_cons (by exact (q_get (by exact hr.hu) (by exact (qv 1 (by rfl) (by exact Or.inr (Or.inl rfl)))) q_str nosl_const)) qa_nil)))))))) qa_nil))))))
abbrev s_law_content : Stmt := top 32
theorem sc_law_content : FnScope ["_law_bag_here", "_law_world_here", "_law_table_here", "_law_bound", "_law_rows", "_law_k", "_law_row_here"] ["_law_bag_here", "_law_world_here", "_law_table_here", "_law_bound"] (defScope s_law_content) := ⟨rfl, rfl, rfl, by decide +kernel, rfl, by decide +kernel, by decide +kernel⟩
abbrev t_law_content : TSd := KR.t_law_content
theorem body_law_content {P : Program} {w : World} {T : Tb} {mg : Str → Option Value} {base : Heap} {f : Addr} (m : Bl mg) (hC : ∀ c, c < nC → ClOk T c) (hL : T.flds = flds) (kit : KitOk T nC sub) (g_Schema : mg "Schema" = some (.ref (T.cls 0))) (c__law_row : Cal T P w mg base "_law_row" 2 3 sp_law_row) (c__law_take : Cal T P w mg base "_law_take" 1 2 sp_law_take) (cdv : Value) (A : Around) (outer : List Env) (s : Shared) (H : Hp) (E : XK) (hr : RoomG 2 (A.deeper (envOfC "_law_content" (defScope s_law_content) s.heap.objs.size f cdv))) :
    QSs T (cxOf (L2.CX P w) P w T.K mg base ["_law_bag_here", "_law_world_here", "_law_table_here", "_law_bound", "_law_rows", "_law_k", "_law_row_here"] "_law_content" (defScope s_law_content) f cdv A outer s H E) (fun cls d _ H => E cls d H) (defBody s_law_content) t_law_content :=
  have sc := sc_law_content
  (qs_cons (q_set (i := 4) (by exact sc.nd) (by rfl) (by exact Or.inl rfl) q_dnewT)
      (qs_cons (q_for (by exact passes_of rfl) (by rfl) (qi_range (by rfl) (by exact m.range_) (by exact (qa_cons (by exact (qcl (by exact takes_of rfl rfl rfl rfl) (by rfl) (by exact c__law_take) (by exact hr.mono (by decide)) (by rfl) (by exact (qa_cons (by exact (qv 0 (by rfl) (by exact Or.inl rfl))) (qa_cons (by exact (q_add (by rfl) (by exact (qv 3 (by rfl) (by exact Or.inl rfl))) q_int)) qa_nil))))) qa_nil))) (qg_name (i := 5) (by exact sc.nd) (by rfl) (by exact Or.inl rfl)) (qs_cons (q_set (i := 6) (by exact sc.nd) (by rfl) (by exact Or.inl rfl) (by exact (qcl (by exact takes_of rfl rfl rfl rfl) (by rfl) (by exact c__law_row) (by exact hr.mono (by decide)) (by rfl) (by exact (qa_cons (by exact (qv 0 (by rfl) (by exact Or.inl rfl))) (qa_cons (by exact (qv 1 (by rfl) (by exact Or.inl rfl))) (qa_cons (by exact (qv 2 (by rfl) (by exact Or.inl rfl))) qa_nil)))))))
      (qs_one (q_dputT (by exact hr.hu) (by exact (qv 6 (by rfl) (by exact Or.inl rfl))) (by exact (qv 4 (by rfl) (by exact Or.inl rfl))) (by exact (q_slice (by rfl) (by exact (qv 6 (by rfl) (by exact Or.inl rfl))) qo_none (qo_some (by exact (q_ix (by rfl) (by exact (qv 2 (by rfl) (by exact Or.inl rfl))) q_int)))))))))
      (qs_one (q_ret (by exact (q_tuple (by rfl) (by exact m.tuple_) (by exact (qa_cons (by exact (q_forget 4 (by exact (q_sortV (by rfl) (by rfl) (by exact hr.hu) (by rfl) (by exact m.sorted_) (by exact (qv 4 (by rfl) (by exact Or.inl rfl))))))) qa_nil))))))))
abbrev s_law_drawn_term : Stmt := top 33
theorem sc_law_drawn_term : FnScope ["_law_bag_here", "_law_world_here", "_law_terms"] ["_law_bag_here", "_law_world_here", "_law_terms"] (defScope s_law_drawn_term) := ⟨rfl, rfl, rfl, by decide +kernel, rfl, by decide +kernel, by decide +kernel⟩
def t_law_drawn_term : TSd :=
  (wSeq (wIfS (wAndT (wTest (wOp neO (wVar 2) (wLst wNil))) (wTest (wOp eqO (wFn sp_law_take (wCons (wVar 0) (wCons (wC (.int 2)) wNil))) (wC (.int 0))))) (wRet (wFn sp_law_one (wCons (wVar 0) (wCons (wVar 2) wNil)))) wNext)
  (wRet (wFn sp_law_take (wCons (wVar 0) (wCons (wGet (wVar 1) (wC (.str "size"))) wNil)))))
theorem body_law_drawn_term {P : Program} {w : World} {T : Tb} {mg : Str → Option Value} {base : Heap} {f : Addr} (m : Bl mg) (hC : ∀ c, c < nC → ClOk T c) (hL : T.flds = flds) (kit : KitOk T nC sub) (g_Schema : mg "Schema" = some (.ref (T.cls 0))) (c__law_one : Cal T P w mg base "_law_one" 2 2 sp_law_one) (c__law_take : Cal T P w mg base "_law_take" 1 2 sp_law_take) (cdv : Value) (A : Around) (outer : List Env) (s : Shared) (H : Hp) (E : XK) (hr : RoomG 2 (A.deeper (envOfC "_law_drawn_term" (defScope s_law_drawn_term) s.heap.objs.size f cdv))) :
    QSs T (cxOf (L2.CX P w) P w T.K mg base ["_law_bag_here", "_law_world_here", "_law_terms"] "_law_drawn_term" (defScope s_law_drawn_term) f cdv A outer s H E) (fun cls d _ H => E cls d H) (defBody s_law_drawn_term) t_law_drawn_term :=
  have sc := sc_law_drawn_term
  (qs_cons (q_if (by exact (QW.qt (qw_and (by exact (qt_ne (by rfl) (by exact hr.hu) (by exact (qv 2 (by rfl) (by exact Or.inl rfl))) (by exact (q_lst qa_nil)))) (qw_and1 (by exact (qt_eq (by rfl) (by exact hr.hu) (by exact (qcl (by exact takes_of rfl rfl rfl rfl) (by rfl) (by exact c__law_take) (by exact hr.mono (by decide)) (by rfl) (by exact (qa_cons (by exact (qv 0 (by rfl) (by exact Or.inl rfl))) (qa_cons q_int qa_nil))))) q_int)))))) (qs_one (q_ret (by exact (qcl (by exact takes_of rfl rfl rfl rfl) (by rfl) (by exact c__law_one) (by exact hr.mono (by decide)) (by rfl) (by exact (qa_cons (by exact (qv 0 (by rfl) (by exact Or.inl rfl))) (qa_cons (by exact (qv 2 (by rfl) (by exact Or.inl rfl))) qa_nil))))))) qs_nil)
      (qs_one (q_ret (by exact (qcl (by exact takes_of rfl rfl rfl rfl) (by rfl) (by exact c__law_take) (by exact hr.mono (by decide)) (by rfl) (by exact (qa_cons (by exact (qv 0 (by rfl) (by exact Or.inl rfl))) (qa_cons (by exact (q_get (by exact hr.hu) (by exact (qv 1 (by rfl) (by exact Or.inl rfl))) q_str nosl_const)) qa_nil))))))))
abbrev s_law_pairs : Stmt := top 34
theorem sc_law_pairs : FnScope ["_law_bag_here", "_law_world_here", "_law_columns", "_law_terms", "_law_some", "_law_column", "_law_one_here"] ["_law_bag_here", "_law_world_here", "_law_columns", "_law_terms"] (defScope s_law_pairs) := ⟨rfl, rfl, rfl, by decide +kernel, rfl, by decide +kernel, by decide +kernel⟩
def t_law_pairs : TSd :=
  (wSeq (wSet 4 (wLc (wiTup (wWk (wVar 2))) (gdName 5) (wTest (wOp eqO (wFn sp_law_take (wCons (wVar 0) (wCons (wC (.int 2)) wNil))) (wC (.int 0)))) (wVar 5) [5]))
  (wRet (wCall tuplePO (wCons (wLc (wiLst (wVar 4)) (gdName 6) wYes (wTup (wCons (wVar 6) (wCons (wFn sp_law_drawn_term (wCons (wVar 0) (wCons (wVar 1) (wCons (wVar 3) wNil)))) wNil))) [6]) wNil))))
theorem body_law_pairs {P : Program} {w : World} {T : Tb} {mg : Str → Option Value} {base : Heap} {f : Addr} (m : Bl mg) (hC : ∀ c, c < nC → ClOk T c) (hL : T.flds = flds) (kit : KitOk T nC sub) (g_Schema : mg "Schema" = some (.ref (T.cls 0))) (c__law_drawn_term : Cal T P w mg base "_law_drawn_term" 3 3 sp_law_drawn_term) (c__law_take : Cal T P w mg base "_law_take" 1 2 sp_law_take) (cdv : Value) (A : Around) (outer : List Env) (s : Shared) (H : Hp) (E : XK) (hr : RoomG 3 (A.deeper (envOfC "_law_pairs" (defScope s_law_pairs) s.heap.objs.size f cdv))) :
    QSs T (cxOf (L2.CX P w) P w T.K mg base ["_law_bag_here", "_law_world_here", "_law_columns", "_law_terms", "_law_some", "_law_column", "_law_one_here"] "_law_pairs" (defScope s_law_pairs) f cdv A outer s H E) (fun cls d _ H => E cls d H) (defBody s_law_pairs) t_law_pairs :=
  have sc := sc_law_pairs
  (qs_cons (q_setLc (i := 4) (own := [("_law_column", 5)]) (by rfl) (by exact sc.nd) (by rfl) (by rfl) (by rfl) (qi_tup (by exact (q_wk (by exact (qv 2 (by rfl) (by exact Or.inl rfl))))) (by rfl)) (by exact (show BlkOk ["_law_bag_here", "_law_world_here", "_law_columns", "_law_terms", "_law_some", "_law_column", "_law_one_here"] (defScope s_law_pairs) _ [("_law_column", 5)] from blkOk_by (by decide +kernel))) (by exact (gok_name 5 (by decide))) (fun s H C cl fp => by exact (pg_name (i := 5) (by exact sc.nd) (by rfl) (by exact Or.inl rfl))) (fun s H C cl fp => by exact (qts_one (by exact (qt_eq (by rfl) (by exact hr.hu) (by exact (qcl (by exact takes0) (by rfl) (by exact c__law_take) (by exact hr.mono (by decide)) (by rfl) (by exact (qa_cons (by exact (qv 0 (by rfl) (by exact Or.inr (Or.inl rfl)))) (qa_cons q_int qa_nil))))) q_int)))) (fun s H C cl fp => by exact (by exact (qv 5 (by rfl) (by exact Or.inl rfl)))))
      (qs_one (q_ret (by exact (q_tupleP (by rfl) (by exact m.tuple_) (by exact (qa_cons (by exact (q_lc (own := [("_law_one_here", 6)]) (by rfl) (by exact sc.nd) (qi_lst (by exact (qv 4 (by rfl) (by exact Or.inl rfl))) (by rfl)) (by exact (show BlkOk ["_law_bag_here", "_law_world_here", "_law_columns", "_law_terms", "_law_some", "_law_column", "_law_one_here"] (defScope s_law_pairs) _ [("_law_one_here", 6)] from blkOk_by (by decide +kernel))) (by exact (gok_name 6 (by decide))) (fun s H C cl fp => by exact (pg_name (i := 6) (by exact sc.nd) (by rfl) (by exact Or.inl rfl))) (fun s H C cl fp => by exact qts_nil) (fun s H C cl fp => by exact (by exact (q_tup (by exact (qa_cons (by exact (qv 6 (by rfl) (by exact Or.inl rfl))) (qa_cons (by exact (qcl (by exact takes0) (by rfl) (by exact c__law_drawn_term) (by exact hr.mono (by decide)) (by rfl) (by exact (qa_cons (by exact (qv 0 (by rfl) (by exact Or.inr (Or.inl rfl)))) (qa_cons (by exact (qv 1 (by rfl) (by exact Or.inr (Or.inl rfl)))) (qa_cons (by exact (qv 3 (by rfl) (by exact Or.inr (Or.inl rfl)))) qa_nil)))))) qa_nil)))))))) qa_nil)))))))
abbrev s_law_written : Stmt := top 35
theorem sc_law_written : FnScope ["_law_bag_here", "_law_world_here", "_law_terms", "_law_name", "_law_columns", "_law_keys", "_law_way", "_law_row_here", "_law_where", "_law_sets", "_law_column"] ["_law_bag_here", "_law_world_here", "_law_terms"] (defScope s_law_written) := ⟨rfl, rfl, rfl, by decide +kernel, rfl, by decide +kernel, by decide +kernel⟩
def t_law_written : TSd :=
  (wSeq (wAsg (wFn sp_law_one (wCons (wVar 0) (wCons (wGet (wVar 1) (wC (.str "tables"))) wNil))) (gdTupN [3, 4, 5]))
  (wSeq (wSet 6 (wFn sp_law_take (wCons (wVar 0) (wCons (wC (.int 4)) wNil))))
  (wSeq (wIfS (wTest (wOp ltO (wVar 6) (wC (.int 2)))) (wSeq (wSet 7 (wLc (wiTup (wWk (wVar 4))) (gdName 10) wYes (wFn sp_law_drawn_term (wCons (wVar 0) (wCons (wVar 1) (wCons (wVar 2) wNil)))) [10]))
  (wRet (wTup (wCons (wOp ixO (wLst (wCons (wC (.str "insert")) (wCons (wC (.str "offer")) wNil))) (wVar 6)) (wCons (wVar 3) (wCons (wCall tupleO (wCons (wVar 7) wNil)) wNil)))))) wNext)
  (wSeq (wSet 8 (wFn sp_law_pairs (wCons (wVar 0) (wCons (wVar 1) (wCons (wWk (wVar 4)) (wCons (wVar 2) wNil))))))
  (wSeq (wIfS (wTest (wOp eqO (wVar 6) (wC (.int 2)))) (wRet (wTup (wCons (wC (.str "delete")) (wCons (wVar 3) (wCons (wVar 8) wNil))))) wNext)
  (wSeq (wSet 9 (wFn sp_law_pairs (wCons (wVar 0) (wCons (wVar 1) (wCons (wWk (wVar 4)) (wCons (wVar 2) wNil))))))
  (wSeq (wIfS (wTest (wOp eqO (wVar 9) (wTup wNil))) (wSet 9 (wTupP (wCons (wTup (wCons (wOp ixO (wWk (wVar 4)) (negO (wC (.int 1)))) (wCons (wFn sp_law_drawn_term (wCons (wVar 0) (wCons (wVar 1) (wCons (wVar 2) wNil)))) wNil))) wNil))) wNext)
  (wRet (wTup (wCons (wC (.str "update")) (wCons (wVar 3) (wCons (wVar 8) (wCons (wVar 9) wNil)))))))))))))
theorem body_law_written {P : Program} {w : World} {T : Tb} {mg : Str → Option Value} {base : Heap} {f : Addr} (m : Bl mg) (hC : ∀ c, c < nC → ClOk T c) (hL : T.flds = flds) (kit : KitOk T nC sub) (g_Schema : mg "Schema" = some (.ref (T.cls 0))) (c__law_drawn_term : Cal T P w mg base "_law_drawn_term" 3 3 sp_law_drawn_term) (c__law_one : Cal T P w mg base "_law_one" 2 2 sp_law_one) (c__law_pairs : Cal T P w mg base "_law_pairs" 4 4 sp_law_pairs) (c__law_take : Cal T P w mg base "_law_take" 1 2 sp_law_take) (cdv : Value) (A : Around) (outer : List Env) (s : Shared) (H : Hp) (E : XK) (hr : RoomG 4 (A.deeper (envOfC "_law_written" (defScope s_law_written) s.heap.objs.size f cdv))) :
    QSs T (cxOf (L2.CX P w) P w T.K mg base ["_law_bag_here", "_law_world_here", "_law_terms", "_law_name", "_law_columns", "_law_keys", "_law_way", "_law_row_here", "_law_where", "_law_sets", "_law_column"] "_law_written" (defScope s_law_written) f cdv A outer s H E) (fun cls d _ H => E cls d H) (defBody s_law_written) t_law_written :=
  have sc := sc_law_written
  (qs_cons (q_asg (by exact (qcl (by exact takes_of rfl rfl rfl rfl) (by rfl) (by exact c__law_one) (by exact hr.mono (by decide)) (by rfl) (by exact (qa_cons (by exact (qv 0 (by rfl) (by exact Or.inr (Or.inl rfl)))) (qa_cons (by exact (q_get (by exact hr.hu) (by exact (qv 1 (by rfl) (by exact Or.inr (Or.inl rfl)))) q_str nosl_const)) qa_nil))))) (qg_names (is := [3, 4, 5]) (by rfl) (by rfl) (pgs_namesC (i := 3) (by exact sc.nd) (by rfl) (by exact Or.inl rfl) (pgs_namesC (i := 4) (by exact sc.nd) (by rfl) (by exact Or.inl rfl) (pgs_namesC (i := 5) (by exact sc.nd) (by rfl) (by exact Or.inl rfl) pgs_names0)))))
      (qs_cons (q_set (i := 6) (by exact sc.nd) (by rfl) (by exact Or.inl rfl) (by exact (qcl (by exact takes_of rfl rfl rfl rfl) (by rfl) (by exact c__law_take) (by exact hr.mono (by decide)) (by rfl) (by exact (qa_cons (by exact (qv 0 (by rfl) (by exact Or.inr (Or.inl rfl)))) (qa_cons q_int qa_nil))))))
      (qs_cons (q_if (by exact (qt_lt (by exact (qv 6 (by rfl) (by exact Or.inl rfl))) q_int)) (qs_cons (q_setLc (i := 7) (own := [("_law_column", 10)]) (by rfl) (by exact sc.nd) (by rfl) (by rfl) (by rfl) (qi_tup (by exact (q_wk (by exact (qv 4 (by rfl) (by exact Or.inl rfl))))) (by rfl)) (by exact (show BlkOk ["_law_bag_here", "_law_world_here", "_law_terms", "_law_name", "_law_columns", "_law_keys", "_law_way", "_law_row_here", "_law_where", "_law_sets", "_law_column"] (defScope s_law_written) _ [("_law_column", 10)] from blkOk_by (by decide +kernel))) (by exact (gok_name 10 (by decide))) (fun s H C cl fp => by exact (pg_name (i := 10) (by exact sc.nd) (by rfl) (by exact Or.inl rfl))) (fun s H C cl fp => by exact qts_nil) (fun s H C cl fp => by exact (by exact (qcl (by exact takes0) (by rfl) (by exact c__law_drawn_term) (by exact hr.mono (by decide)) (by rfl) (by exact (qa_cons (by exact (qv 0 (by rfl) (by exact Or.inr (Or.inl rfl)))) (qa_cons (by exact (qv 1 (by rfl) (by exact Or.inr (Or.inl rfl)))) (qa_cons (by exact (qv 2 (by rfl) (by exact Or.inr (Or.inl rfl)))) qa_nil))))))))
      (qs_one (q_ret (by exact (q_tup (by exact (qa_cons (by exact (q_ix (by rfl) (by exact (q_lst (by exact (qa_cons q_str (qa_cons q_str qa_nil))))) (by exact (qv 6 (by rfl) (by exact Or.inl rfl))))) (qa_cons (by exact (qv 3 (by rfl) (by exact Or.inl rfl))) (qa_cons (by exact (q_tuple (by rfl) (by exact m.tuple_) (by exact (qa_cons (by exact (qv 7 (by rfl) (by exact Or.inl rfl))) qa_nil)))) qa_nil))))))))) qs_nil)
      (qs_cons (q_set (i := 8) (by exact sc.nd) (by rfl) (by exact Or.inl rfl) (by exact (qcl (by exact takes_of rfl rfl rfl rfl) (by rfl) (by exact c__law_pairs) (by exact hr.mono (by decide)) (by rfl) (by exact (qa_cons (by exact (qv 0 (by rfl) (by exact Or.inr (Or.inl rfl)))) (qa_cons (by exact (qv 1 (by rfl) (by exact Or.inr (Or.inl rfl)))) (qa_cons (by exact (q_wk (by exact (qv 4 (by rfl) (by exact Or.inl rfl))))) (qa_cons (by exact (qv 2 (by rfl) (by exact Or.inr (Or.inl rfl)))) qa_nil))))))))
      (qs_cons (q_if (by exact (qt_eq (by rfl) (by exact hr.hu) (by exact (qv 6 (by rfl) (by exact Or.inl rfl))) q_int)) (qs_one (q_ret (by exact (q_tup (by exact (qa_cons q_str (qa_cons (by exact (qv 3 (by rfl) (by exact Or.inl rfl))) (qa_cons (by exact (qv 8 (by rfl) (by exact Or.inl rfl))) qa_nil)))))))) qs_nil)
      (qs_cons (q_set (i := 9) (by exact sc.nd) (by rfl) (by exact Or.inl rfl) (by exact (qcl (by exact takes_of rfl rfl rfl rfl) (by rfl) (by exact c__law_pairs) (by exact hr.mono (by decide)) (by rfl) (by exact (qa_cons (by exact (qv 0 (by rfl) (by exact Or.inr (Or.inl rfl)))) (qa_cons (by exact (qv 1 (by rfl) (by exact Or.inr (Or.inl rfl)))) (qa_cons (by exact (q_wk (by exact (qv 4 (by rfl) (by exact Or.inl rfl))))) (qa_cons (by exact (qv 2 (by rfl) (by exact Or.inr (Or.inl rfl)))) qa_nil))))))))
      (qs_cons (q_if (by exact (qt_eq (by rfl) (by exact hr.hu) (by exact (qv 9 (by rfl) (by exact Or.inl rfl))) (by exact (q_tup qa_nil)))) (qs_one (q_set (i := 9) (by exact sc.nd) (by rfl) (by exact Or.inl rfl) (by exact (q_tupP (by exact (qa_cons (by exact (q_tup (by exact (qa_cons (by exact (q_ix (by rfl) (by exact (q_wk (by exact (qv 4 (by rfl) (by exact Or.inl rfl))))) (by exact (q_neg q_int)))) (qa_cons (by exact (qcl (by exact takes_of rfl rfl rfl rfl) (by rfl) (by exact c__law_drawn_term) (by exact hr.mono (by decide)) (by rfl) (by exact (qa_cons (by exact (qv 0 (by rfl) (by exact Or.inr (Or.inl rfl)))) (qa_cons (by exact (qv 1 (by rfl) (by exact Or.inr (Or.inl rfl)))) (qa_cons (by exact (qv 2 (by rfl) (by exact Or.inr (Or.inl rfl)))) qa_nil)))))) qa_nil))))) qa_nil)))))) qs_nil)
      (qs_one (q_ret (by exact (q_tup (by exact (qa_cons q_str (qa_cons (by exact (qv 3 (by rfl) (by exact Or.inl rfl))) (qa_cons (by exact (qv 8 (by rfl) (by exact Or.inl rfl))) (qa_cons (by exact (qv 9 (by rfl) (by exact Or.inl rfl))) qa_nil))))))))))))))))
abbrev s_law_schema : Stmt := top 36
theorem sc_law_schema : FnScope ["_law_world_here"] ["_law_world_here"] (defScope s_law_schema) := ⟨rfl, rfl, rfl, by decide +kernel, rfl, by decide +kernel, by decide +kernel⟩
abbrev t_law_schema : TSd := KR.t_law_schema
theorem body_law_schema {P : Program} {w : World} {T : Tb} {mg : Str → Option Value} {base : Heap} {f : Addr} (m : Bl mg) (hC : ∀ c, c < nC → ClOk T c) (hL : T.flds = flds) (kit : KitOk T nC sub) (g_Schema : mg "Schema" = some (.ref (T.cls 0))) (c_Schema___init__ : CalC T P w mg base "Schema" 0 4 sp_Schema___init__) (cdv : Value) (A : Around) (outer : List Env) (s : Shared) (H : Hp) (E : XK) (hr : RoomG 5 (A.deeper (envOfC "_law_schema" (defScope s_law_schema) s.heap.objs.size f cdv))) :
    QSs T (cxOf (L2.CX P w) P w T.K mg base ["_law_world_here"] "_law_schema" (defScope s_law_schema) f cdv A outer s H E) (fun cls d _ H => E cls d H) (defBody s_law_schema) t_law_schema :=
  have sc := sc_law_schema
  (qs_one (q_ret (by exact (q_make (by exact takes_of rfl rfl rfl rfl) (by rfl) hL (by exact c_Schema___init__) (by exact hr.mono (by decide)) (by exact (qa_cons (by exact (q_get (by exact hr.hu) (by exact (qv 0 (by rfl) (by exact Or.inl rfl))) q_str nosl_const)) (qa_cons (by exact (q_listM (by rfl) (by exact m.list_) (by exact (qa_cons (by exact (q_get (by exact hr.hu) (by exact (qv 0 (by rfl) (by exact Or.inl rfl))) q_str nosl_const)) qa_nil)))) qa_nil)))))))
abbrev s_law_shapes : Stmt := top 37
theorem sc_law_shapes : FnScope ["_law_found_here"] [] (defScope s_law_shapes) := ⟨rfl, rfl, rfl, by decide +kernel, rfl, by decide +kernel, by decide +kernel⟩
abbrev t_law_shapes : TSd := KS.t_law_shapes
theorem body_law_shapes {P : Program} {w : World} {T : Tb} {mg : Str → Option Value} {base : Heap} {f : Addr} (m : Bl mg) (hC : ∀ c, c < nC → ClOk T c) (hL : T.flds = flds) (kit : KitOk T nC sub) (g_Schema : mg "Schema" = some (.ref (T.cls 0)))  (cdv : Value) (A : Around) (outer : List Env) (s : Shared) (H : Hp) (E : XK) (hr : RoomG 0 (A.deeper (envOfC "_law_shapes" (defScope s_law_shapes) s.heap.objs.size f cdv))) :
    QSs T (cxOf (L2.CX P w) P w T.K mg base ["_law_found_here"] "_law_shapes" (defScope s_law_shapes) f cdv A outer s H E) (fun cls d _ H => E cls d H) (defBody s_law_shapes) t_law_shapes :=
  have sc := sc_law_shapes
  (qs_cons (q_set (i := 0) (by exact sc.nd) (by rfl) (by exact Or.inl rfl) (by exact (q_lst (by exact (qa_cons q_str (qa_cons q_str (qa_cons q_str (qa_cons q_str (qa_cons q_str (qa_cons q_str (qa_cons q_str (qa_cons q_str qa_nil))))))))))))
      (qs_one (q_ret (by exact (q_add (by rfl) (by exact (qv 0 (by rfl) (by exact Or.inl rfl))) (by exact (q_lst (by exact (qa_cons q_str (qa_cons q_str qa_nil))))))))))
abbrev s_law_table : Stmt := top 38
theorem sc_law_table : FnScope ["_law_world_here", "_law_table_here", "_law_spot", "_law_row_here"] ["_law_world_here", "_law_table_here"] (defScope s_law_table) := ⟨rfl, rfl, rfl, by decide +kernel, rfl, by decide +kernel, by decide +kernel⟩
def t_law_table : TSd :=
  (wSeq (wSet 2 (wLix (wLc (wiLst (wGet (wVar 0) (wC (.str "tables")))) (gdName 3) wYes (wOp ixO (wVar 3) (wC (.int 0))) [3]) (wCons (wVar 1) wNil)))
  (wRet (wOp addO (wTup (wCons (wVar 2) wNil)) (wSl slO (wOp ixO (wGet (wVar 0) (wC (.str "tables"))) (wVar 2)) (wPart (wC (.int 1))) wNoPart))))
theorem body_law_table {P : Program} {w : World} {T : Tb} {mg : Str → Option Value} {base : Heap} {f : Addr} (m : Bl mg) (hC : ∀ c, c < nC → ClOk T c) (hL : T.flds = flds) (kit : KitOk T nC sub) (g_Schema : mg "Schema" = some (.ref (T.cls 0)))  (cdv : Value) (A : Around) (outer : List Env) (s : Shared) (H : Hp) (E : XK) (hr : RoomG 0 (A.deeper (envOfC "_law_table" (defScope s_law_table) s.heap.objs.size f cdv))) :
    QSs T (cxOf (L2.CX P w) P w T.K mg base ["_law_world_here", "_law_table_here", "_law_spot", "_law_row_here"] "_law_table" (defScope s_law_table) f cdv A outer s H E) (fun cls d _ H => E cls d H) (defBody s_law_table) t_law_table :=
  have sc := sc_law_table
  (qs_cons (q_set (i := 2) (by exact sc.nd) (by rfl) (by exact Or.inl rfl) (by exact (q_lix (by rfl) (by exact (q_lc (own := [("_law_row_here", 3)]) (by rfl) (by exact sc.nd) (qi_lst (by exact (q_get (by exact hr.hu) (by exact (qv 0 (by rfl) (by exact Or.inl rfl))) q_str nosl_const)) (by rfl)) (by exact (show BlkOk ["_law_world_here", "_law_table_here", "_law_spot", "_law_row_here"] (defScope s_law_table) _ [("_law_row_here", 3)] from blkOk_by (by decide +kernel))) (by exact (gok_name 3 (by decide))) (fun s H C cl fp => by exact (pg_name (i := 3) (by exact sc.nd) (by rfl) (by exact Or.inl rfl))) (fun s H C cl fp => by exact qts_nil) (fun s H C cl fp => by exact (by exact (q_ix (by rfl) (by exact (qv 3 (by rfl) (by exact Or.inl rfl))) q_int))))) (by exact (qa_cons (by exact (qv 1 (by rfl) (by exact Or.inl rfl))) qa_nil)))))
      (qs_one (q_ret (by exact (q_add (by rfl) (by exact (q_tup (by exact (qa_cons (by exact (qv 2 (by rfl) (by exact Or.inl rfl))) qa_nil)))) (by exact (q_slice (by rfl) (by exact (q_ix (by rfl) (by exact (q_get (by exact hr.hu) (by exact (qv 0 (by rfl) (by exact Or.inl rfl))) q_str nosl_const)) (by exact (qv 2 (by rfl) (by exact Or.inl rfl))))) (qo_some q_int) qo_none)))))))
abbrev s_law_found : Stmt := top 39
theorem sc_law_found : FnScope ["_law_world_here", "_law_table_here", "_law_where", "_law_database", "_law_spot", "_law_columns", "_law_keys", "_law_pairs_here", "_law_found_here", "_law_row_here", "_law_column", "_law_value", "_law_k"] ["_law_world_here", "_law_table_here", "_law_where", "_law_database"] (defScope s_law_found) := ⟨rfl, rfl, rfl, by decide +kernel, rfl, by decide +kernel, by decide +kernel⟩
def t_law_found : TSd :=
  (wSeq (wAsg (wFn sp_law_table (wCons (wVar 0) (wCons (wVar 1) wNil))) (gdTupN [4, 5, 6]))
  (wSeq (wSet 7 (wLc (wiTup (wWk (wVar 2))) (gdTupN [10, 11]) wYes (wTup (wCons (wTix (wVar 5) (wCons (wVar 10) wNil)) (wCons (wVar 11) wNil))) [10, 11]))
  (wSeq (wSet 8 (wLstM wNil))
  (wSeq (wFor (wiTup (wOp ixO (wVar 3) (wVar 4))) (gdName 9) (wIfS (wTest (wOp eqO (wLc (wiLst (wVar 7)) (gdTupN [12, 11]) (wTest (wOp neO (wOp ixO (wVar 9) (wVar 12)) (wVar 11))) (wC (.int 1)) [12, 11]) (wLst wNil))) (wExpr (wML appendO (wVar 8) (wCons (wVar 9) wNil))) wNext))
  (wRet (wFrzL (wVar 8)))))))
theorem body_law_found {P : Program} {w : World} {T : Tb} {mg : Str → Option Value} {base : Heap} {f : Addr} (m : Bl mg) (hC : ∀ c, c < nC → ClOk T c) (hL : T.flds = flds) (kit : KitOk T nC sub) (g_Schema : mg "Schema" = some (.ref (T.cls 0))) (c__law_table : Cal T P w mg base "_law_table" 1 2 sp_law_table) (cdv : Value) (A : Around) (outer : List Env) (s : Shared) (H : Hp) (E : XK) (hr : RoomG 1 (A.deeper (envOfC "_law_found" (defScope s_law_found) s.heap.objs.size f cdv))) :
    QSs T (cxOf (L2.CX P w) P w T.K mg base ["_law_world_here", "_law_table_here", "_law_where", "_law_database", "_law_spot", "_law_columns", "_law_keys", "_law_pairs_here", "_law_found_here", "_law_row_here", "_law_column", "_law_value", "_law_k"] "_law_found" (defScope s_law_found) f cdv A outer s H E) (fun cls d _ H => E cls d H) (defBody s_law_found) t_law_found :=
  have sc := sc_law_found
  (qs_cons (q_asg (by exact (qcl (by exact takes_of rfl rfl rfl rfl) (by rfl) (by exact c__law_table) (by exact hr.mono (by decide)) (by rfl) (by exact (qa_cons (by exact (qv 0 (by rfl) (by exact Or.inl rfl))) (qa_cons (by exact (qv 1 (by rfl) (by exact Or.inl rfl))) qa_nil))))) (qg_names (is := [4, 5, 6]) (by rfl) (by rfl) (pgs_namesC (i := 4) (by exact sc.nd) (by rfl) (by exact Or.inl rfl) (pgs_namesC (i := 5) (by exact sc.nd) (by rfl) (by exact Or.inr rfl) (pgs_namesC (i := 6) (by exact sc.nd) (by rfl) (by exact Or.inl rfl) pgs_names0)))))
      (qs_cons (q_setLc (i := 7) (own := [("_law_column", 10), ("_law_value", 11)]) (by rfl) (by exact sc.nd) (by rfl) (by rfl) (by rfl) (qi_tup (by exact (q_wk (by exact (qv 2 (by rfl) (by exact Or.inl rfl))))) (by rfl)) (by exact (show BlkOk ["_law_world_here", "_law_table_here", "_law_where", "_law_database", "_law_spot", "_law_columns", "_law_keys", "_law_pairs_here", "_law_found_here", "_law_row_here", "_law_column", "_law_value", "_law_k"] (defScope s_law_found) _ [("_law_column", 10), ("_law_value", 11)] from blkOk_by (by decide +kernel))) (by exact (gok_tup (by rfl) (is := [10, 11]) (by decide))) (fun s H C cl fp => by exact (pg_tup (by rfl) (pgs_namesC (i := 10) (by exact sc.nd) (by rfl) (by exact Or.inl rfl) (pgs_namesC (i := 11) (by exact sc.nd) (by rfl) (by exact Or.inl rfl) pgs_names0)) (by rfl) (by rfl))) (fun s H C cl fp => by exact qts_nil) (fun s H C cl fp => by exact (by exact (q_tup (by exact (qa_cons (by exact (q_tix (by rfl) (by exact (qv 5 (by rfl) (by exact Or.inr (Or.inl rfl)))) (by exact (qa_cons (by exact (qv 10 (by rfl) (by exact Or.inl rfl))) qa_nil)))) (qa_cons (by exact (qv 11 (by rfl) (by exact Or.inl rfl))) qa_nil)))))))
      (qs_cons (q_set (i := 8) (by exact sc.nd) (by rfl) (by exact Or.inl rfl) (by exact (q_lstM qa_nil)))
      (qs_cons (q_for (by exact passes_of rfl) (by rfl) (qi_tup (by exact (q_ix (by rfl) (by exact (qv 3 (by rfl) (by exact Or.inl rfl))) (by exact (qv 4 (by rfl) (by exact Or.inl rfl))))) (by rfl)) (qg_name (i := 9) (by exact sc.nd) (by rfl) (by exact Or.inr rfl)) (qs_one (q_if (by exact (qt_eq (by rfl) (by exact hr.hu) (by exact (q_lc (own := [("_law_k", 12), ("_law_value", 11)]) (by rfl) (by exact sc.nd) (qi_lst (by exact (qv 7 (by rfl) (by exact Or.inl rfl))) (by rfl)) (by exact (show BlkOk ["_law_world_here", "_law_table_here", "_law_where", "_law_database", "_law_spot", "_law_columns", "_law_keys", "_law_pairs_here", "_law_found_here", "_law_row_here", "_law_column", "_law_value", "_law_k"] (defScope s_law_found) _ [("_law_k", 12), ("_law_value", 11)] from blkOk_by (by decide +kernel))) (by exact (gok_tup (by rfl) (is := [12, 11]) (by decide))) (fun s H C cl fp => by exact (pg_tup (by rfl) (pgs_namesC (i := 12) (by exact sc.nd) (by rfl) (by exact Or.inl rfl) (pgs_namesC (i := 11) (by exact sc.nd) (by rfl) (by exact Or.inl rfl) pgs_names0)) (by rfl) (by rfl))) (fun s H C cl fp => by exact (qts_one (by exact (qt_ne (by rfl) (by exact hr.hu) (by exact (q_ix (by rfl) (by exact (qv 9 (by rfl) (by exact Or.inr (Or.inl rfl)))) (by exact (qv 12 (by rfl) (by exact Or.inl rfl))))) (by exact (qv 11 (by rfl) (by exact Or.inl rfl))))))) (fun s H C cl fp => by exact q_int))) (by exact (q_lst qa_nil)))) (qs_one (q_expr (by exact (q_appendL (by rfl) (by exact (qv 8 (by rfl) (by exact Or.inl rfl))) (by exact (qa_cons (by exact (qv 9 (by rfl) (by exact Or.inr (Or.inl rfl)))) qa_nil)))))) qs_nil)))
      (qs_one (q_ret (by exact (q_frzL (by exact (qv 8 (by rfl) (by exact Or.inl rfl)))))))))))
abbrev s_law_hits : Stmt := top 40
theorem sc_law_hits : FnScope ["_law_world_here", "_law_statement", "_law_database", "_law_rows", "_law_columns", "_law_sets", "_law_found_here", "_law_row_here", "_law_new", "_law_k"] ["_law_world_here", "_law_statement", "_law_database"] (defScope s_law_hits) := ⟨rfl, rfl, rfl, by decide +kernel, rfl, by decide +kernel, by decide +kernel⟩
def t_law_hits : TSd :=
  (wSeq (wIfS (wTest (wOp inTxO (wOp ixO (wVar 1) (wC (.int 0))) (wTup (wCons (wC (.str "insert")) (wCons (wC (.str "offer")) wNil))))) (wRet (wLst (wCons (wTup (wCons (wC .non) (wCons (wOp ixO (wVar 1) (wC (.int 2))) wNil))) wNil))) wNext)
  (wSeq (wSet 3 (wFn sp_law_found (wCons (wVar 0) (wCons (wOp ixO (wVar 1) (wC (.int 1))) (wCons (wOp ixO (wVar 1) (wC (.int 2))) (wCons (wVar 2) wNil))))))
  (wSeq (wIfS (wTest (wOp eqO (wOp ixO (wVar 1) (wC (.int 0))) (wC (.str "delete")))) (wRet (wLc (wiLst (wVar 3)) (gdName 7) wYes (wTup (wCons (wVar 7) (wCons (wC .non) wNil))) [7])) wNext)
  (wSeq (wAsg (wTup (wCons (wOp ixO (wFn sp_law_table (wCons (wVar 0) (wCons (wOp ixO (wVar 1) (wC (.int 1))) wNil))) (wC (.int 1))) (wCons (wCall dictTO (wCons (wOp ixO (wVar 1) (wC (.int 3))) wNil)) (wCons (wLstM wNil) wNil)))) (gdTupN [4, 5, 6]))
  (wSeq (wFor (wiLst (wVar 3)) (gdName 7) (wSeq (wSet 8 (wLc (wiRange (wCons (wCall lenO (wCons (wVar 7) wNil)) wNil)) (gdName 9) wYes (wDGet2 (wVar 5) (wOp ixO (wWk (wVar 4)) (wVar 9)) (wOp ixO (wVar 7) (wVar 9))) [9]))
  (wExpr (wML appendO (wVar 6) (wCons (wTup (wCons (wVar 7) (wCons (wCall tupleO (wCons (wVar 8) wNil)) wNil))) wNil)))))
  (wRet (wFrzL (wVar 6))))))))
theorem body_law_hits {P : Program} {w : World} {T : Tb} {mg : Str → Option Value} {base : Heap} {f : Addr} (m : Bl mg) (hC : ∀ c, c < nC → ClOk T c) (hL : T.flds = flds) (kit : KitOk T nC sub) (g_Schema : mg "Schema" = some (.ref (T.cls 0))) (c__law_found : Cal T P w mg base "_law_found" 2 4 sp_law_found) (c__law_table : Cal T P w mg base "_law_table" 1 2 sp_law_table) (cdv : Value) (A : Around) (outer : List Env) (s : Shared) (H : Hp) (E : XK) (hr : RoomG 2 (A.deeper (envOfC "_law_hits" (defScope s_law_hits) s.heap.objs.size f cdv))) :
    QSs T (cxOf (L2.CX P w) P w T.K mg base ["_law_world_here", "_law_statement", "_law_database", "_law_rows", "_law_columns", "_law_sets", "_law_found_here", "_law_row_here", "_law_new", "_law_k"] "_law_hits" (defScope s_law_hits) f cdv A outer s H E) (fun cls d _ H => E cls d H) (defBody s_law_hits) t_law_hits :=
  have sc := sc_law_hits
  (qs_cons (q_if (by exact (qt_inTx (by rfl) (by exact hr.hu2) (by exact (q_ix (by rfl) (by exact (qv 1 (by rfl) (by exact Or.inl rfl))) q_int)) (by exact (q_tup (by exact (qa_cons q_str (qa_cons q_str qa_nil))))))) (qs_one (q_ret (by exact (q_lst (by exact (qa_cons (by exact (q_tup (by exact (qa_cons q_non (qa_cons (by exact (q_ix (by rfl) (by exact (qv 1 (by rfl) (by exact Or.inl rfl))) q_int)) qa_nil))))) qa_nil)))))) qs_nil)
      (qs_cons (q_set (i := 3) (by exact sc.nd) (by rfl) (by exact Or.inl rfl) (by exact (qcl (by exact takes_of rfl rfl rfl rfl) (by rfl) (by exact c__law_found) (by exact hr.mono (by decide)) (by rfl) (by exact (qa_cons (by exact (qv 0 (by rfl) (by exact Or.inl rfl))) (qa_cons (by exact (q_ix (by rfl) (by exact (qv 1 (by rfl) (by exact Or.inl rfl))) q_int)) (qa_cons (by exact (q_ix (by rfl) (by exact (qv 1 (by rfl) (by exact Or.inl rfl))) q_int)) (qa_cons (by exact (qv 2 (by rfl) (by exact Or.inl rfl))) qa_nil))))))))
      (qs_cons (q_if (by exact (qt_eq (by rfl) (by exact hr.hu) (by exact (q_ix (by rfl) (by exact (qv 1 (by rfl) (by exact Or.inl rfl))) q_int)) q_str)) (qs_one (q_ret (by exact (q_lc (own := [("_law_row_here", 7)]) (by rfl) (by exact sc.nd) (qi_lst (by exact (qv 3 (by rfl) (by exact Or.inl rfl))) (by rfl)) (by exact (show BlkOk ["_law_world_here", "_law_statement", "_law_database", "_law_rows", "_law_columns", "_law_sets", "_law_found_here", "_law_row_here", "_law_new", "_law_k"] (defScope s_law_hits) _ [("_law_row_here", 7)] from blkOk_by (by decide +kernel))) (by exact (gok_name 7 (by decide))) (fun s H C cl fp => by exact (pg_name (i := 7) (by exact sc.nd) (by rfl) (by exact Or.inl rfl))) (fun s H C cl fp => by exact qts_nil) (fun s H C cl fp => by exact (by exact (q_tup (by exact (qa_cons (by exact (qv 7 (by rfl) (by exact Or.inl rfl))) (qa_cons q_non qa_nil)))))))))) qs_nil)
      (qs_cons (q_asg (by exact (q_tup (by exact (qa_cons (by exact (q_ix (by rfl) (by exact (qcl (by exact takes_of rfl rfl rfl rfl) (by rfl) (by exact c__law_table) (by exact hr.mono (by decide)) (by rfl) (by exact (qa_cons (by exact (qv 0 (by rfl) (by exact Or.inl rfl))) (qa_cons (by exact (q_ix (by rfl) (by exact (qv 1 (by rfl) (by exact Or.inl rfl))) q_int)) qa_nil))))) q_int)) (qa_cons (by exact (q_dictT (by rfl) (by rfl) (by exact m.dict_) (by exact (qa_cons (by exact (q_ix (by rfl) (by exact (qv 1 (by rfl) (by exact Or.inl rfl))) q_int)) qa_nil)))) (qa_cons (by exact (q_lstM qa_nil)) qa_nil)))))) (qg_names (is := [4, 5, 6]) (by rfl) (by rfl) (pgs_namesC (i := 4) (by exact sc.nd) (by rfl) (by exact Or.inr rfl) (pgs_namesC (i := 5) (by exact sc.nd) (by rfl) (by exact Or.inr rfl) (pgs_namesC (i := 6) (by exact sc.nd) (by rfl) (by exact Or.inl rfl) pgs_names0)))))
      (qs_cons (q_for (by exact passes_of rfl) (by rfl) (qi_lst (by exact (qv 3 (by rfl) (by exact Or.inl rfl))) (by rfl)) (qg_name (i := 7) (by exact sc.nd) (by rfl) (by exact Or.inr rfl)) (qs_cons (q_setLc (i := 8) (own := [("_law_k", 9)]) (by rfl) (by exact sc.nd) (by rfl) (by rfl) (by rfl) (qi_range (by rfl) (by exact m.range_) (by exact (qa_cons (by exact (q_len (by rfl) (by exact m.len_) (by exact (qa_cons (by exact (qv 7 (by rfl) (by exact Or.inr (Or.inl rfl)))) qa_nil)))) qa_nil))) (by exact (show BlkOk ["_law_world_here", "_law_statement", "_law_database", "_law_rows", "_law_columns", "_law_sets", "_law_found_here", "_law_row_here", "_law_new", "_law_k"] (defScope s_law_hits) _ [("_law_k", 9)] from blkOk_by (by decide +kernel))) (by exact (gok_name 9 (by decide))) (fun s H C cl fp => by exact (pg_name (i := 9) (by exact sc.nd) (by rfl) (by exact Or.inl rfl))) (fun s H C cl fp => by exact qts_nil) (fun s H C cl fp => by exact (by exact (q_dget2 (by exact hr.hu) (by exact (qv 5 (by rfl) (by exact Or.inr (Or.inl rfl)))) (by exact (q_ix (by rfl) (by exact (q_wk (by exact (qv 4 (by rfl) (by exact Or.inr (Or.inl rfl)))))) (by exact (qv 9 (by rfl) (by exact Or.inl rfl))))) (by exact (q_ix (by rfl) (by exact (qv 7 (by rfl) (by exact Or.inr (Or.inl rfl)))) (by exact (qv 9 (by rfl) (by exact Or.inl rfl)))))))))
      (qs_one (q_expr (by exact (q_appendL (by rfl) (by exact (qv 6 (by rfl) (by exact Or.inl rfl))) (by exact (qa_cons (by exact (q_tup (by exact (qa_cons (by exact (qv 7 (by rfl) (by exact Or.inr (Or.inl rfl)))) (qa_cons (by exact (q_tuple (by rfl) (by exact m.tuple_) (by exact (qa_cons (by exact (qv 8 (by rfl) (by exact Or.inl rfl))) qa_nil)))) qa_nil))))) qa_nil))))))))
      (qs_one (q_ret (by exact (q_frzL (by exact (qv 6 (by rfl) (by exact Or.inl rfl))))))))))))
abbrev s_law : Stmt := top 41
theorem sc_law : FnScope ["_law_script", "_law_bag_here", "_law_turn", "_law_world_here", "_law_schema_here", "_law_database", "_law_step", "_law_statement", "_law_shown", "_law_due", "_law_again", "_law_found_here", "_law_table_here"] ["_law_script"] (defScope s_law) := ⟨rfl, rfl, rfl, by decide +kernel, rfl, by decide +kernel, by decide +kernel⟩
def t_law : TSd :=
  (wSeq (wSet 1 (wFn sp_law_bag (wCons (wVar 0) wNil)))
  (wSeq (wFor (wiRange (wCons (wC (.int 8)) wNil)) (gdName 2) (wSeq (wSet 3 (wFn sp_law_world (wCons (wVar 1) (wCons (wFn sp_law_shapes wNil) wNil))))
  (wSeq (wSet 4 (wFn sp_law_schema (wCons (wVar 3) wNil)))
  (wSeq (wSet 5 (wCall tupleO (wCons (wLc (wiLst (wGet (wVar 3) (wC (.str "tables")))) (gdName 12) wYes (wFn sp_law_content (wCons (wVar 1) (wCons (wVar 3) (wCons (wVar 12) (wCons (wC (.int 6)) wNil))))) [12]) wNil)))
  (wFor (wiRange (wCons (wC (.int 6)) wNil)) (gdName 6) (wSeq (wSet 7 (wFn sp_law_written (wCons (wVar 1) (wCons (wVar 3) (wCons (wLst wNil) wNil)))))
  (wSeq (wPar 8 9 (wCons (wCall reprO (wCons (wLst (wCons (wVar 7) (wCons (wVar 5) wNil))) wNil)) (wCons (wFn sp_law_hits (wCons (wVar 3) (wCons (wVar 7) (wCons (wVar 5) wNil)))) wNil)))
  (wFor (wiRange (wCons (wC (.int 3)) wNil)) (gdName 10) (wSeq (wSet 11 (wFn sp_hits (wCons (wVar 4) (wCons (wVar 7) (wCons (wVar 5) wNil)))))
  (wSeq (wIfS (wOrT (wNotT (wTest (wFn sp_law_alike (wCons (wVar 11) (wCons (wVar 9) wNil))))) (wTest (wOp neO (wCall reprO (wCons (wLst (wCons (wVar 7) (wCons (wVar 5) wNil))) wNil)) (wVar 8)))) (wRet (wC (.bl false))) wNext)
  (wSeq (wExpr (wML0 reverseO (wVar 11)))
  (wExpr (wML appendO (wVar 11) (wCons (wC .non) wNil))))))))))))))
  (wRet (wC (.bl true)))))
theorem body_law {P : Program} {w : World} {T : Tb} {mg : Str → Option Value} {base : Heap} {f : Addr} (m : Bl mg) (hC : ∀ c, c < nC → ClOk T c) (hL : T.flds = flds) (kit : KitOk T nC sub) (g_Schema : mg "Schema" = some (.ref (T.cls 0))) (c__law_alike : Cal T P w mg base "_law_alike" 1 2 sp_law_alike) (c__law_bag : Cal T P w mg base "_law_bag" 1 1 sp_law_bag) (c__law_content : Cal T P w mg base "_law_content" 3 4 sp_law_content) (c__law_hits : Cal T P w mg base "_law_hits" 3 3 sp_law_hits) (c__law_schema : Cal T P w mg base "_law_schema" 6 1 sp_law_schema) (c__law_shapes : Cal T P w mg base "_law_shapes" 1 0 sp_law_shapes) (c__law_world : Cal T P w mg base "_law_world" 3 2 sp_law_world) (c__law_written : Cal T P w mg base "_law_written" 5 3 sp_law_written) (c_hits : Cal T P w mg base "hits" 2 3 sp_hits) (cdv : Value) (A : Around) (outer : List Env) (s : Shared) (H : Hp) (E : XK) (hr : RoomG 6 (A.deeper (envOfC "law" (defScope s_law) s.heap.objs.size f cdv))) :
    QSs T (cxOf (L2.CX P w) P w T.K mg base ["_law_script", "_law_bag_here", "_law_turn", "_law_world_here", "_law_schema_here", "_law_database", "_law_step", "_law_statement", "_law_shown", "_law_due", "_law_again", "_law_found_here", "_law_table_here"] "law" (defScope s_law) f cdv A outer s H E) (fun cls d _ H => E cls d H) (defBody s_law) t_law :=
  have sc := sc_law
  (qs_cons (q_set (i := 1) (by exact sc.nd) (by rfl) (by exact Or.inr rfl) (by exact (qcl (by exact takes_of rfl rfl rfl rfl) (by rfl) (by exact c__law_bag) (by exact hr.mono (by decide)) (by rfl) (by exact (qa_cons (by exact (qv 0 (by rfl) (by exact Or.inl rfl))) qa_nil)))))
      (qs_cons (q_for (by exact passes_of rfl) (by rfl) (qi_range (by rfl) (by exact m.range_) (by exact (qa_cons q_int qa_nil))) (qg_name (i := 2) (by exact sc.nd) (by rfl) (by exact Or.inl rfl)) (qs_cons (q_set (i := 3) (by exact sc.nd) (by rfl) (by exact Or.inr rfl) (by exact (qcl (by exact takes_of rfl rfl rfl rfl) (by rfl) (by exact c__law_world) (by exact hr.mono (by decide)) (by rfl) (by exact (qa_cons (by exact (qv 1 (by rfl) (by exact Or.inr (Or.inl rfl)))) (qa_cons (by exact (qcl0 (by exact takes_of rfl rfl rfl rfl) (by rfl) (by exact c__law_shapes) (by exact hr.mono (by decide)) (by rfl))) qa_nil))))))
      (qs_cons (q_set (i := 4) (by exact sc.nd) (by rfl) (by exact Or.inl rfl) (by exact (qcl (by exact takes_of rfl rfl rfl rfl) (by rfl) (by exact c__law_schema) (by exact hr.mono (by decide)) (by rfl) (by exact (qa_cons (by exact (qv 3 (by rfl) (by exact Or.inr (Or.inl rfl)))) qa_nil)))))
      (qs_cons (q_set (i := 5) (by exact sc.nd) (by rfl) (by exact Or.inl rfl) (by exact (q_tuple (by rfl) (by exact m.tuple_) (by exact (qa_cons (by exact (q_lc (own := [("_law_table_here", 12)]) (by rfl) (by exact sc.nd) (qi_lst (by exact (q_get (by exact hr.hu) (by exact (qv 3 (by rfl) (by exact Or.inr (Or.inl rfl)))) q_str nosl_const)) (by rfl)) (by exact (show BlkOk ["_law_script", "_law_bag_here", "_law_turn", "_law_world_here", "_law_schema_here", "_law_database", "_law_step", "_law_statement", "_law_shown", "_law_due", "_law_again", "_law_found_here", "_law_table_here"] (defScope s_law) _ [("_law_table_here", 12)] from blkOk_by (by decide +kernel))) (by exact (gok_name 12 (by decide))) (fun s H C cl fp => by exact (pg_name (i := 12) (by exact sc.nd) (by rfl) (by exact Or.inl rfl))) (fun s H C cl fp => by exact qts_nil) (fun s H C cl fp => by exact (by exact (qcl (by exact takes0) (by rfl) (by exact c__law_content) (by exact hr.mono (by decide)) (by rfl) (by exact (qa_cons (by exact (qv 1 (by rfl) (by exact Or.inr (Or.inl rfl)))) (qa_cons (by exact (qv 3 (by rfl) (by exact Or.inr (Or.inl rfl)))) (qa_cons (by exact (qv 12 (by rfl) (by exact Or.inl rfl))) (qa_cons q_int qa_nil)))))))))) qa_nil)))))
      (qs_one (q_for (by exact passes_of rfl) (by rfl) (qi_range (by rfl) (by exact m.range_) (by exact (qa_cons q_int qa_nil))) (qg_name (i := 6) (by exact sc.nd) (by rfl) (by exact Or.inl rfl)) (qs_cons (q_set (i := 7) (by exact sc.nd) (by rfl) (by exact Or.inl rfl) (by exact (qcl (by exact takes_of rfl rfl rfl rfl) (by rfl) (by exact c__law_written) (by exact hr.mono (by decide)) (by rfl) (by exact (qa_cons (by exact (qv 1 (by rfl) (by exact Or.inr (Or.inl rfl)))) (qa_cons (by exact (qv 3 (by rfl) (by exact Or.inr (Or.inl rfl)))) (qa_cons (by exact (q_lst qa_nil)) qa_nil)))))))
      (qs_cons (q_par (i := 8) (j := 9) (by rfl) (by exact sc.nd) (by rfl) (by rfl) (by decide) (by rfl) (by rfl) (by exact (qa_cons (by exact (q_repr (by rfl) (by exact hr.g) (by exact hr.hu) (by exact m.repr_) (by exact (qa_cons (by exact (q_lst (by exact (qa_cons (by exact (qv 7 (by rfl) (by exact Or.inl rfl))) (qa_cons (by exact (qv 5 (by rfl) (by exact Or.inl rfl))) qa_nil))))) qa_nil)))) (qa_cons (by exact (qcl (by exact takes_of rfl rfl rfl rfl) (by rfl) (by exact c__law_hits) (by exact hr.mono (by decide)) (by rfl) (by exact (qa_cons (by exact (qv 3 (by rfl) (by exact Or.inr (Or.inl rfl)))) (qa_cons (by exact (qv 7 (by rfl) (by exact Or.inl rfl))) (qa_cons (by exact (qv 5 (by rfl) (by exact Or.inl rfl))) qa_nil)))))) qa_nil))) (by rfl))
      (qs_one (q_for (by exact passes_of rfl) (by rfl) (qi_range (by rfl) (by exact m.range_) (by exact (qa_cons q_int qa_nil))) (qg_name (i := 10) (by exact sc.nd) (by rfl) (by exact Or.inl rfl)) (qs_cons (q_set (i := 11) (by exact sc.nd) (by rfl) (by exact Or.inl rfl) (by exact (qcl (by exact takes_of rfl rfl rfl rfl) (by rfl) (by exact c_hits) (by exact hr.mono (by decide)) (by rfl) (by exact (qa_cons (by exact (qv 4 (by rfl) (by exact Or.inl rfl))) (qa_cons (by exact (qv 7 (by rfl) (by exact Or.inl rfl))) (qa_cons (by exact (qv 5 (by rfl) (by exact Or.inl rfl))) qa_nil)))))))
      (qs_cons (q_if (by exact (QW.qt (qw_or (by exact (qt_not (by exact (qt_val (by exact (qcl (by exact takes_of rfl rfl rfl rfl) (by rfl) (by exact c__law_alike) (by exact hr.mono (by decide)) (by rfl) (by exact (qa_cons (by exact (qv 11 (by rfl) (by exact Or.inl rfl))) (qa_cons (by exact (qv 9 (by rfl) (by exact Or.inl rfl))) qa_nil))))))))) (qw_or1 (by exact (qt_ne (by rfl) (by exact hr.hu) (by exact (q_repr (by rfl) (by exact hr.g) (by exact hr.hu) (by exact m.repr_) (by exact (qa_cons (by exact (q_lst (by exact (qa_cons (by exact (qv 7 (by rfl) (by exact Or.inl rfl))) (qa_cons (by exact (qv 5 (by rfl) (by exact Or.inl rfl))) qa_nil))))) qa_nil)))) (by exact (qv 8 (by rfl) (by exact Or.inl rfl))))))))) (qs_one (q_ret q_bl)) qs_nil)
      (qs_cons (q_expr (by exact (q_reverse (by exact (qv 11 (by rfl) (by exact Or.inl rfl))))))
      (qs_one (q_expr (by exact (q_appendL (by rfl) (by exact (qv 11 (by rfl) (by exact Or.inl rfl))) (by exact (qa_cons q_non qa_nil)))))))))))))))))))
      (qs_one (q_ret q_bl))))
end K19
set_option Elab.async false
set_option linter.all false
set_option maxRecDepth 100000
set_option maxHeartbeats 4000000
namespace K19
open PySem PySem.Spec PyProof.Rows L2 DL KS KR
open KL hiding sp_law_take sp_law_alike sp_law_bag sp_is_integer sp_is_name
local macro_rules | `(tactic| walk_at "rd") => `(tactic| simp only [wWk, wk_p, wk_t, wk_l, D.tupp.injEq, eqO_p, neO_p, topD_p, tyD_p, wTupP, reprL_1, wTix, wLix, wDGet2, wSeq, wRet, wRetN, wNext, wSet, wIfS, wTest, wOp, wC, wVar, wCall, wCons, wNil, wAnd, wOr, wNot, wAndT, wOrT, wNotT, wAugI, wAug, augMul, augMulW, wSetI, wChain, wRaise, wTryAs, wFn, wLstM, wLst, wTup, wSl, wPart, wNoPart, wMS, wYes, wPar, wAsg, wDisp, wPairs, wiRange, wiEnum, wiEnumS, wiSeq, exists_eq', exists_eq, List.cons.injEq, wipeE, gdName, wExpr, wLc, wDc, wiStr, wiLst, wiTup, itO_l, itO_f, itO_r, itS_t, itS_l, itS_r, inSO_1, notInSO_1, isBO_1, notBO_1, wIf, wFor, wIsiT, wFld, wGet, wRev, revO_t, revO_l, wFrzL, wFrz, frzL_l, frzL_r, frzO_r, wML, wMeth, wSetF, wLenSet, gdTupN_2, gdTupN_3, gdPat_in, iB_tt, iB_lt, iB_tl, iB_ll, wh_int, decide_true, decide_false, Bool.not_eq_true, Bool.and_self, Bool.and_true, Bool.true_and,
  lk, startD, List.map_cons, List.map_nil, List.length_cons, List.length_nil, List.replicate, List.cons_append, List.nil_append, Option.some.injEq, DO.lst.injEq, DO.ins.injEq, exists_eq_left', exists_eq_left, exists_and_left, D.bl.injEq, D.int.injEq, D.str.injEq, D.ref.injEq, D.ty.injEq, D.tup.injEq, D.lst.injEq, List.set_cons_zero, List.set_cons_succ, Nat.sub_self, Nat.reduceAdd, Nat.reduceSub, true_and, and_true, if_true, if_false, ite_true, ite_false, Bool.false_eq_true, reduceIte, Bool.not_true, Bool.not_false,
  int0_ii, intO_ii, addO_ii, addO_ss, addO_tt, addO_ll, mulDO_ii, mulDO_li, mulDO_ti, mulDO_si, ixO_t, ixO_l, ixO_f, ixO_s, ixO_r, negO_c, lenO_1, lenO1_s, lenO1_t, lenO1_l, lenO1_f, absO_i, allO_1, isiO_1, reprO_1, joinO_1, appendO_1, slO_t, slO_l, slO_f, slO_s, setO_ri, augAt_ri, topD_i, topD_s, topD_b, topD_n, topD_t, topD_l, topD_f, topD_d, okD_i, okD_b, okD_n, eqD_ii, tyD_n, tyD_b, tyD_i, tyD_s, tyD_t, tyD_l, tyD_f, tyD_d, eqO_ss, eqO_i, eqO_b, eqO_l, eqO_t, eqO_r, neO_ss, neO_i, neO_b, neO_l, neO_t, neO_r, eqG, neG, atI_0, atI_1, atI_2, atI_3, ixN_40, ixN_41, ixN_42, Int.reduceLE, Int.reduceLT, gset_same, gset_gset, decide_eq_true_eq])

theorem row_at {n : Nat} {t : Tab} {r : List Int} (h : RowOk n t r) {z : Str} (hz : z ∈ t.cols) : atI (r.map D.int) (ixS t.cols z : Nat) = some (.int (atC t r z)) := by
  obtain ⟨h1, _⟩ := ixS_at hz
  have hl := (List.getElem?_eq_some_iff.mp h1).1
  have hr : ixS t.cols z < r.length := by rw [h.1]; exact hl
  rw [DL.atI_nat, List.getElem?_map, List.getElem?_eq_getElem hr]
  unfold atC
  rw [List.getD_eq_getElem?_getD, List.getElem?_eq_getElem hr]
  rfl
def mD (t : Tab) (r : List Int) : D → Bool
  | .tup [.str z, .int v] => decide (atC t r z = v)
  | _ => false
theorem prs_len (w : List (Str × Int)) : (prs w).length = w.length := List.length_map _
theorem read_matches (ds : List D) (G : GH) (Q : DK) (Ex : DX) (h : sp_matches ds G Q Ex) : t_matches (endsOf Q Ex) (startD ["columns", "row", "where", "column", "value"] ds) G := by
  obtain ⟨n, t, r, w, rfl, tok, ro, po, q⟩ := h
  unfold t_matches colsD rowD
  walk_at "rd"
  intro p np
  refine lc_map (fun d => some (.bl (mD t r d))) (fun _ => trivial) (prs w) [] (fun d hd acc k hk => ?_) ?_
  · obtain ⟨⟨z, v⟩, hm, rfl⟩ := List.mem_map.mp hd
    have hz : z ∈ t.cols := po.cl _ hm
    walk_at "rd"
    refine ⟨t.cols, rfl, hz, _, row_at ro hz, ?_⟩
    walk_at "rd"
    exact hk
  · rw [List.nil_append]
    refine ⟨w.map fun p => decide (atC t r p.1 = p.2), ?_, ?_⟩
    · rw [List.filterMap_eq_map']
      unfold prs
      rw [List.map_map]
      exact blsD_map (fun p : Str × Int => decide (atC t r p.1 = p.2)) w
    · rw [gdel_gset np, List.all_map]
      exact q
def keyP1 : D → L2.Key
  | .tup [.str z, _] => .inr z
  | _ => .inl 0
def valP1 : D → D
  | .tup [_, v] => v
  | d => d
theorem look_set (z : Str) (v : Int) : ∀ s : List (Str × Int), (lookK (s.map fun p => (Sum.inr p.1 : L2.Key)) (s.map fun p => D.int p.2) (.inr z)).getD (.int v) = .int (setV s z v)
  | [] => rfl
  | p :: s => by
    rw [List.map_cons, List.map_cons]
    unfold lookK setV
    rw [List.find?_cons]
    by_cases e : p.1 = z
    · rw [if_pos (by rw [e]), decide_eq_true e]
      rfl
    · rw [if_neg (fun q => e (Sum.inr.inj q)), decide_eq_false e]
      exact look_set z v s
def putD (s : List (Str × Int)) : D → D
  | .tup [.str z, .int v] => .int (setV s z v)
  | d => d
theorem zip_put (t : Tab) (r : List Int) : ((t.cols.map D.str).zip (r.map D.int)).map pair2 = (t.cols.zip r).map fun p => D.tup [.str p.1, .int p.2] := by
  rw [List.zip_map, List.map_map]
  rfl
theorem read_put (ds : List D) (G : GH) (Q : DK) (Ex : DX) (h : sp_put ds G Q Ex) : t_put (endsOf Q Ex) (startD ["columns", "row", "sets", "values", "column", "value"] ds) G := by
  obtain ⟨n, t, r, s, rfl, tok, ro, po, q⟩ := h
  have hi := tok.hi
  unfold t_put colsD rowD
  walk_at "rd"
  intro p np
  have kk : (prs s).map keyP1 = s.map fun p => (Sum.inr p.1 : L2.Key) := by unfold prs; rw [List.map_map]; rfl
  have kv : (prs s).map valP1 = s.map fun p => D.int p.2 := by unfold prs; rw [List.map_map]; rfl
  refine dc_each keyP1 valP1 (fun _ _ => trivial) _ [] [] (by
    rw [List.nil_append, kk]
    rw [show (s.map fun p => (Sum.inr p.1 : L2.Key)) = (s.map (·.1)).map Sum.inr by rw [List.map_map]; rfl]
    exact List.Pairwise.map _ (fun a b h e => h (Sum.inr.inj e)) po.nd) (fun d hd ks vs k hk => ?_) ?_
  · obtain ⟨⟨z, v⟩, hm, rfl⟩ := List.mem_map.mp hd
    walk_at "rd"
    exact ⟨_, rfl, hk⟩
  · rw [List.nil_append, List.nil_append, kk, kv, gdel_gset np]
    simp only [wiZip]
    walk_at "rd"
    refine ⟨t.cols.map D.str, r.map D.int, .inr ⟨rfl, rfl⟩, fun p2 np2 => ?_⟩
    rw [zip_put]
    refine lc_map (fun d => some (putD s d)) (fun _ => trivial) _ [] (fun d hd acc k hk => ?_) ?_
    · obtain ⟨⟨z, v⟩, hm, rfl⟩ := List.mem_map.mp hd
      have e := look_set z v s
      have hk2 : k (acc ++ [D.int (setV s z v)]) (gset G p2 (.lst (acc ++ [D.int (setV s z v)]))) := hk
      walk_at "rd"
      refine ⟨_, _, rfl, _, rfl, ?_⟩
      rw [e]
      first | exact hk2 | exact ⟨gset_same, by rw [gset_gset]; exact hk2⟩
    · rw [List.nil_append, gdel_gset np2]
      have ep : ((t.cols.zip r).map fun p => D.tup [.str p.1, .int p.2]).filterMap (fun d => some (putD s d)) = (putR t s r).map D.int := by
        unfold putR
        rw [List.filterMap_eq_map', List.map_map, List.map_map]
        rfl
      rw [ep]
      refine KS.tup_lst ?_ q
      rw [List.length_map]
      unfold putR
      rw [List.length_map, List.length_zip, sizeLine_eq]
      omega
theorem name_at {ts : List Tab} {t : Tab} (ht : t ∈ ts) : spot ts t < ts.length ∧ ∃ u, ts[spot ts t]? = some u ∧ u.nm = t.nm := by
  have hm : t.nm ∈ ts.map (·.nm) := List.mem_map.mpr ⟨t, ht, rfl⟩
  obtain ⟨h1, _⟩ := ixS_at hm
  have hl := (List.getElem?_eq_some_iff.mp h1).1
  rw [List.length_map] at hl
  refine ⟨hl, ts[spot ts t], List.getElem?_eq_getElem hl, ?_⟩
  rw [List.getElem?_map] at h1
  have e : ts[ixS (ts.map (·.nm)) t.nm]? = some ts[spot ts t] := List.getElem?_eq_getElem hl
  rw [e] at h1
  exact Option.some.inj h1
theorem nd_eq : ∀ {ts : List Tab}, (ts.map (·.nm)).Nodup → ∀ {t u : Tab}, t ∈ ts → u ∈ ts → u.nm = t.nm → u = t
  | [], _, _, _, h, _, _ => nomatch h
  | a :: ts, nd, t, u, ht, hu, e => by
    rw [List.map_cons, List.nodup_cons] at nd
    rcases List.mem_cons.mp ht with ht1 | ht1
    · rcases List.mem_cons.mp hu with hu1 | hu1
      · rw [ht1, hu1]
      · exact absurd (List.mem_map.mpr ⟨u, hu1, e.trans (by rw [ht1])⟩) nd.1
    · rcases List.mem_cons.mp hu with hu1 | hu1
      · exact absurd (List.mem_map.mpr ⟨t, ht1, e.symm.trans (by rw [hu1])⟩) nd.1
      · exact nd_eq nd.2 ht1 hu1 e
theorem spot_at {n : Nat} {ts : List Tab} (ok : SetOk n ts) {t : Tab} (ht : t ∈ ts) : ts[spot ts t]? = some t := by
  obtain ⟨hl, u, hu, e⟩ := name_at ht
  rw [hu, nd_eq ok.nd ht (List.mem_of_getElem? hu) e]
theorem rows_at {n : Nat} {ts : List Tab} {cs : List (List (List Int))} (ok : SetOk n ts) (db : DbOk n ts cs) {t : Tab} (ht : t ∈ ts) : cs[spot ts t]? = some (rowsOf ts cs t) ∧ (rowsOf ts cs t).length ≤ 6 ∧ ∀ r ∈ rowsOf ts cs t, RowOk n t r := by
  have hl := (name_at ht).1
  rw [← db.len] at hl
  have e : cs[spot ts t]? = some (rowsOf ts cs t) := by
    unfold rowsOf
    rw [List.getD_eq_getElem?_getD, List.getElem?_eq_getElem hl]
    rfl
  exact ⟨e, db.ok _ _ _ (spot_at ok ht) e⟩
theorem db_at {n : Nat} {ts : List Tab} {cs : List (List (List Int))} (ok : SetOk n ts) (db : DbOk n ts cs) {t : Tab} (ht : t ∈ ts) : atI (cs.map contD) (spot ts t : Nat) = some (contD (rowsOf ts cs t)) := by
  rw [DL.atI_nat, List.getElem?_map, (rows_at ok db ht).1]
  rfl
theorem kind_any (k : Bool) : ([("insert" : Str), "offer"]).any (isTx (.str (kindZ k))) = true := by cases k <;> decide
theorem cut3 {a b c : D} : DL.cutD [a, b, c] none (some 3) = [a, b, c] := rfl
theorem cut43 {a b c d : D} : DL.cutD [a, b, c, d] none (some 3) = [a, b, c] := rfl
def hi_C : TSd := (wSeq (wIfS (wTest (wOp eqO (wVar 3) (wC (.str "delete")))) (wRet (wLcM (wiLst (wVar 8)) (gdName 9) wYes (wTup (wCons (wVar 9) (wCons (wC .non) wNil))) [9])) wNext)
  (wRet (wLcM (wiLst (wVar 8)) (gdName 9) wYes (wTup (wCons (wVar 9) (wCons (wFn sp_put (wCons (wVar 6) (wCons (wVar 9) (wCons (wOp ixO (wVar 1) (wC (.int 3))) wNil)))) wNil))) [9])))
def hi_B : TSd := (wSeq (wSet 6 (wMeth 0 sp_Schema_columns (wVar 0) (wCons (wVar 4) wNil)))
  (wSeq (wSet 7 (wOp ixO (wVar 2) (wTix (wFld nC flds "names" (wVar 0)) (wCons (wVar 4) wNil))))
  (wSeq (wSet 8 (wLc (wiTup (wVar 7)) (gdName 9) (wTest (wFn sp_matches (wCons (wVar 6) (wCons (wVar 9) (wCons (wVar 5) wNil))))) (wVar 9) [9]))
  hi_C)))
theorem t_hits_eq : t_hits = (wSeq (wAsg (wSl slO (wVar 1) wNoPart (wPart (wC (.int 3)))) (gdTupN [3, 4, 5]))
  (wSeq (wIfS (wTest (wOp inTxO (wVar 3) (wTup (wCons (wC (.str "insert")) (wCons (wC (.str "offer")) wNil))))) (wRet (wLstM (wCons (wTup (wCons (wC .non) (wCons (wVar 5) wNil))) wNil))) wNext)
  hi_B)) := rfl

def rowInts : D → List Int
  | .tup ds => ds.map fun d => match d with
    | .int i => i
    | _ => 0
  | _ => []
theorem rowInts_rowD (r : List Int) : rowInts (rowD r) = r := by
  show (r.map D.int).map _ = r
  rw [List.map_map]
  exact (List.map_congr_left fun i _ => rfl).trans (List.map_id r)
theorem filter_rows (p : List Int → Bool) (rs : List (List Int)) : (rs.map rowD).filterMap (fun d => if p (rowInts d) = true then some d else none) = (rs.filter p).map rowD := by
  induction rs with
  | nil => rfl
  | cons r rs ih =>
    rw [List.map_cons, List.filterMap_cons, rowInts_rowD, List.filter_cons]
    by_cases e : p r = true
    · rw [if_pos e, if_pos e, List.map_cons, ih]
    · rw [if_neg e, if_neg e, ih]
theorem read_hiB {De : DEnds} {n : Nat} {ts : List Tab} {cs : List (List (List Int))} {t : Tab} {w : List (Str × Int)} {sd kd : D} {y6 y7 y8 y9 : Option D} {G : GH} (ok : SetOk n ts) (db : DbOk n ts cs) (ht : t ∈ ts) (po : PairsOk n t w)
    (k : hi_C De [some (schemaD n ts), some sd, some (dbD cs), some kd, some (.str t.nm), some (.tupp (prs w)), some (colsD t), some (contD (rowsOf ts cs t)), some (.lst ((foundR ts cs t w).map rowD)), y9] G) :
    hi_B De [some (schemaD n ts), some sd, some (dbD cs), some kd, some (.str t.nm), some (.tupp (prs w)), y6, y7, y8, y9] G := by
  have tok := ok.ok t ht
  obtain ⟨r1, r2, r3⟩ := rows_at ok db ht
  unfold hi_B
  walk_at "rd"
  refine ⟨ins_schema, n, ts, t, rfl, ok, ht, ?_⟩
  dsimp only
  rw [fl_names]
  have hm : t.nm ∈ ts.map (·.nm) := List.mem_map.mpr ⟨t, ht, rfl⟩
  refine ⟨ts.map (·.nm), by rw [List.map_map]; rfl, hm, ?_⟩
  unfold dbD
  rw [ixO_t]
  refine ⟨_, db_at ok db ht, _, rfl, fun p np => ?_⟩
  refine lc_map (fun d => if matchR t w (rowInts d) = true then some d else none) (fun _ => trivial) _ [] (fun d hd acc kk hk => ?_) ?_
  · obtain ⟨r, hr, rfl⟩ := List.mem_map.mp hd
    walk_at "rd"
    refine ⟨n, t, r, w, rfl, tok, r3 r hr, po, ?_⟩
    rw [rowInts_rowD] at hk
    refine ⟨_, rfl, ?_⟩
    by_cases e : matchR t w r = true
    · rw [if_pos e] at hk
      rw [e, if_pos rfl]
      first | exact hk | exact ⟨gset_same, by rw [gset_gset]; exact hk⟩
    · rw [if_neg e] at hk
      rw [if_neg e]
      simpa using hk
  · rw [List.nil_append, gdel_gset np, filter_rows]
    exact k
theorem read_hits (ds : List D) (G : GH) (Q : DK) (Ex : DX) (h : sp_hits ds G Q Ex) : t_hits (endsOf Q Ex) (startD ["schema", "statement", "database", "kind", "table", "rest", "columns", "content", "found", "row"] ds) G := by
  obtain ⟨n, ts, cs, st, rfl, ok, db, so, q⟩ := h
  rw [t_hits_eq]
  cases st with
  | ins kd t r =>
    obtain ⟨ht, ro⟩ := so
    unfold Stm.D
    walk_at "rd"
    rw [cut3]
    walk_at "rd"
    refine ⟨by rw [sizeLine_eq]; decide, _, _, rfl, rfl, ⟨_, rfl⟩, ?_⟩
    rw [kind_any kd]
    walk_at "rd"
    exact ⟨by rw [sizeLine_eq]; decide, by rw [sizeLine_eq]; decide, q⟩
  | del t w =>
    obtain ⟨ht, po⟩ := so
    have tok := ok.ok t ht
    obtain ⟨r1, r2, r3⟩ := rows_at ok db ht
    unfold Stm.D
    walk_at "rd"
    rw [cut3]
    walk_at "rd"
    refine ⟨by rw [sizeLine_eq]; decide, _, _, rfl, rfl, ⟨_, rfl⟩, ?_⟩
    rw [show ([("insert" : Str), "offer"]).any (isTx (.str "delete")) = false by decide]
    walk_at "rd"
    refine read_hiB ok db ht po ?_
    unfold hi_C
    walk_at "rd"
    simp only [wLcM]
    walk_at "rd"
    intro p np
    refine lc_map (fun d => some (.tup [d, .non])) (fun _ => trivial) _ [] (fun d hd acc kk hk => ?_) ?_
    · walk_at "rd"
      first | exact ⟨by rw [sizeLine_eq]; decide, hk⟩ | exact ⟨by rw [sizeLine_eq]; decide, gset_same, by rw [gset_gset]; exact hk⟩
    · rw [List.nil_append, List.filterMap_eq_map', List.map_map]
      exact q p np
  | upd t w s =>
    obtain ⟨ht, po, ps⟩ := so
    have tok := ok.ok t ht
    obtain ⟨r1, r2, r3⟩ := rows_at ok db ht
    unfold Stm.D
    walk_at "rd"
    rw [cut43]
    walk_at "rd"
    refine ⟨by rw [sizeLine_eq]; decide, _, _, rfl, rfl, ⟨_, rfl⟩, ?_⟩
    rw [show ([("insert" : Str), "offer"]).any (isTx (.str "update")) = false by decide]
    walk_at "rd"
    refine read_hiB ok db ht po ?_
    unfold hi_C
    walk_at "rd"
    rw [if_neg (by decide)]
    simp only [wLcM]
    walk_at "rd"
    intro p np
    refine lc_map (fun d => some (.tup [d, rowD (putR t s (rowInts d))])) (fun _ => trivial) _ [] (fun d hd acc kk hk => ?_) ?_
    · obtain ⟨r, hr, rfl⟩ := List.mem_map.mp hd
      have hr2 := (List.mem_filter.mp hr).1
      rw [rowInts_rowD] at hk
      walk_at "rd"
      refine ⟨n, t, r, s, rfl, tok, r3 r hr2, ps, by rw [sizeLine_eq]; decide, ?_⟩
      first | exact hk | exact ⟨gset_same, by rw [gset_gset]; exact hk⟩
    · rw [List.nil_append, List.filterMap_eq_map', List.map_map]
      have e : (foundR ts cs t w).map ((fun d => D.tup [d, rowD (putR t s (rowInts d))]) ∘ rowD) = hitsL ts cs (.upd t w s) := List.map_congr_left fun r _ => by
        show D.tup [rowD r, rowD (putR t s (rowInts (rowD r)))] = _
        rw [rowInts_rowD]
      rw [e]
      exact q p np
end K19
set_option Elab.async false
set_option linter.all false
set_option maxRecDepth 100000
set_option maxHeartbeats 4000000
namespace K19
open PySem PySem.Spec PyProof.Rows L2 DL KS KR
open KL hiding sp_law_take sp_law_alike sp_law_bag sp_is_integer sp_is_name
local macro_rules | `(tactic| walk_at "rd") => `(tactic| simp only [wWk, wk_p, wk_t, wk_l, D.tupp.injEq, eqO_p, neO_p, topD_p, tyD_p, wTupP, reprL_1, wTix, wLix, wDGet2, wSeq, wRet, wRetN, wNext, wSet, wIfS, wTest, wOp, wC, wVar, wCall, wCons, wNil, wAnd, wOr, wNot, wAndT, wOrT, wNotT, wAugI, wAug, augMul, augMulW, wSetI, wChain, wRaise, wTryAs, wFn, wLstM, wLst, wTup, wSl, wPart, wNoPart, wMS, wYes, wPar, wAsg, wDisp, wPairs, wiRange, wiEnum, wiEnumS, wiSeq, exists_eq', exists_eq, List.cons.injEq, wipeE, gdName, wExpr, wLc, wDc, wiStr, wiLst, wiTup, itO_l, itO_f, itO_r, itS_t, itS_l, itS_r, inSO_1, notInSO_1, isBO_1, notBO_1, wIf, wFor, wIsiT, wFld, wGet, wRev, revO_t, revO_l, wFrzL, wFrz, frzL_l, frzL_r, frzO_r, wML, wMeth, wSetF, wLenSet, gdTupN_2, gdTupN_3, gdPat_in, iB_tt, iB_lt, iB_tl, iB_ll, wh_int, decide_true, decide_false, Bool.not_eq_true, Bool.and_self, Bool.and_true, Bool.true_and,
  lk, startD, List.map_cons, List.map_nil, List.length_cons, List.length_nil, List.replicate, List.cons_append, List.nil_append, Option.some.injEq, DO.lst.injEq, DO.ins.injEq, exists_eq_left', exists_eq_left, exists_and_left, D.bl.injEq, D.int.injEq, D.str.injEq, D.ref.injEq, D.ty.injEq, D.tup.injEq, D.lst.injEq, List.set_cons_zero, List.set_cons_succ, Nat.sub_self, Nat.reduceAdd, Nat.reduceSub, true_and, and_true, if_true, if_false, ite_true, ite_false, Bool.false_eq_true, reduceIte, Bool.not_true, Bool.not_false,
  int0_ii, intO_ii, addO_ii, addO_ss, addO_tt, addO_ll, mulDO_ii, mulDO_li, mulDO_ti, mulDO_si, ixO_t, ixO_l, ixO_f, ixO_s, ixO_r, negO_c, lenO_1, lenO1_s, lenO1_t, lenO1_l, lenO1_f, absO_i, allO_1, isiO_1, reprO_1, joinO_1, appendO_1, slO_t, slO_l, slO_f, slO_s, setO_ri, augAt_ri, topD_i, topD_s, topD_b, topD_n, topD_t, topD_l, topD_f, topD_d, okD_i, okD_b, okD_n, eqD_ii, tyD_n, tyD_b, tyD_i, tyD_s, tyD_t, tyD_l, tyD_f, tyD_d, eqO_ss, eqO_i, eqO_b, eqO_l, eqO_t, eqO_r, neO_ss, neO_i, neO_b, neO_l, neO_t, neO_r, eqG, neG, atI_0, atI_1, atI_2, atI_3, ixN_40, ixN_41, ixN_42, Int.reduceLE, Int.reduceLT, gset_same, gset_gset, decide_eq_true_eq])

theorem read_law_alike (ds : List D) (G : GH) (Q : DK) (Ex : DX) (h : sp_law_alike ds G Q Ex) : t_law_alike (endsOf Q Ex) (startD ["_law_found_here", "_law_due"] ds) G := by
  obtain ⟨p, xs, rfl, g, ⟨s1, s2, s3, s4, s5⟩, q⟩ := h
  unfold t_law_alike
  walk_at "rd"
  rw [topD_ref g]
  refine ⟨s1, s1, ?_⟩
  rw [eqD_refl s1, if_pos rfl]
  refine ⟨s2, s3, s4, s5, s2, s3, s4, s5, ?_⟩
  simpa using q
theorem read_law_drawn_term (ds : List D) (G : GH) (Q : DK) (Ex : DX) (h : sp_law_drawn_term ds G Q Ex) : t_law_drawn_term (endsOf Q Ex) (startD ["_law_bag_here", "_law_world_here", "_law_terms"] ds) G := by
  obtain ⟨a, b, n, ts, rfl, g, hb, ok, q⟩ := h
  have n1 := ok.lo
  have n4 := ok.hi
  unfold t_law_drawn_term
  walk_at "rd"
  refine ⟨Nat.zero_le _, rfl, rfl, ?_⟩
  rw [if_neg (by decide)]
  refine wg_size (n := n) (ts := ts) ?_
  exact take_call (by omega) (by omega) g hb fun v b' v0 v1 hb' => q v b' v0 v1 hb'
theorem read_law_table (ds : List D) (G : GH) (Q : DK) (Ex : DX) (h : sp_law_table ds G Q Ex) : t_law_table (endsOf Q Ex) (startD ["_law_world_here", "_law_table_here", "_law_spot", "_law_row_here"] ds) G := by
  obtain ⟨n, ts, t, rfl, ok, ht, q⟩ := h
  unfold t_law_table
  walk_at "rd"
  refine wg_tabs (n := n) (ts := ts) ?_
  rw [itO_l]
  intro p np
  have nm : (tabsD ts).map (part 0) = (ts.map (·.nm)).map D.str := by rw [names_map, List.map_map]; rfl
  refine lc_each (part 0) (fun _ => trivial) (fun d hd acc k hk => ?_) ?_
  · obtain ⟨u, hu, rfl⟩ := tabs_mem hd
    unfold tabD
    walk_at "rd"
    exact hk
  · rw [nm]
    refine ⟨_, rfl, List.mem_map.mpr ⟨t, ht, rfl⟩, by rw [sizeLine_eq]; decide, ?_⟩
    rw [gdel_gset np]
    refine wg_tabs (n := n) (ts := ts) ?_
    rw [ixO_l]
    have e : atI (tabsD ts) (ixS (ts.map (·.nm)) t.nm : Nat) = some (tabD t) := by
      have := spot_at ok ht
      unfold spot at this
      rw [DL.atI_nat]
      unfold tabsD
      rw [List.getElem?_map, this]
      rfl
    refine ⟨_, e, ?_⟩
    unfold tabD
    rw [slO_t]
    have c : DL.cutD [D.str t.nm, colsD t, D.int t.keys] (some 1) none = [colsD t, D.int t.keys] := rfl
    rw [c, addO_tt]
    exact ⟨by rw [sizeLine_eq]; show 1 + 2 ≤ _; decide, q⟩
/-- lc_draw, where words may be passed over -/
theorem lc_sift {a p : Addr} {stay : GH → Prop} {gd : TGd} {tt : TTd} {te : TEd} {env0 : Ev} {Q : List D → GH → Prop} {G0 : GH} (J : D → Prop) (hst : ∀ (d : DO) acc, stay (gset (gset G0 a d) p (.lst acc)))
    (h : ∀ (d : D) (b acc : List D) (k : List D → GH → Prop), J (.lst b) → (∀ b', J (.lst b') → k acc (gset (gset G0 a (.lst b')) p (.lst acc)) ∧ k (acc ++ [d]) (gset (gset G0 a (.lst b')) p (.lst (acc ++ [d])))) → lcTurn p gd tt te env0 d acc (gset (gset G0 a (.lst b)) p (.lst acc)) k)
    (L0 : List D) (fin : ∀ acc b, J (.lst b) → List.Sublist acc L0 → Q acc (gset (gset G0 a (.lst b)) p (.lst acc))) :
    ∀ (ds pre acc b : List D), pre ++ ds = L0 → List.Sublist acc pre → J (.lst b) → wCompL p stay gd tt te env0 Q ds acc (gset (gset G0 a (.lst b)) p (.lst acc))
  | [], pre, acc, b, e, hs, hb => ⟨hst _ _, gset_same, fin acc b hb (by rw [List.append_nil] at e; rw [← e]; exact hs)⟩
  | d :: r, pre, acc, b, e, hs, hb => ⟨hst _ _, h d b acc (fun acc' G' => wCompL p stay gd tt te env0 Q r acc' G') hb fun b' hb' =>
      ⟨lc_sift J hst h L0 fin r (pre ++ [d]) acc b' (by rw [List.append_assoc]; exact e) (hs.trans (List.sublist_append_left _ _)) hb',
       lc_sift J hst h L0 fin r (pre ++ [d]) (acc ++ [d]) b' (by rw [List.append_assoc]; exact e) (hs.append (List.Sublist.refl _)) hb'⟩⟩
/-- one for each, in turn -/
inductive Each (R : D → D → Prop) : List D → List D → Prop
  | nil : Each R [] []
  | cons {x y : D} {xs ys : List D} : R x y → Each R xs ys → Each R (x :: xs) (y :: ys)
theorem Each.snoc {R : D → D → Prop} {x y : D} (r : R x y) : ∀ {xs ys : List D}, Each R xs ys → Each R (xs ++ [x]) (ys ++ [y])
  | _, _, .nil => .cons r .nil
  | _, _, .cons h t => .cons h (t.snoc r)
theorem lc_drawR {a p : Addr} {stay : GH → Prop} {gd : TGd} {tt : TTd} {te : TEd} {env0 : Ev} {Q : List D → GH → Prop} {G0 : GH} (J : D → Prop) (R : D → D → Prop) (hst : ∀ (d : DO) acc, stay (gset (gset G0 a d) p (.lst acc))) (L0 : List D)
    (h : ∀ d ∈ L0, ∀ (b acc : List D) (k : List D → GH → Prop), J (.lst b) → (∀ y b', R d y → J (.lst b') → k (acc ++ [y]) (gset (gset G0 a (.lst b')) p (.lst (acc ++ [y])))) → lcTurn p gd tt te env0 d acc (gset (gset G0 a (.lst b)) p (.lst acc)) k)
    (fin : ∀ acc b, J (.lst b) → Each R L0 acc → Q acc (gset (gset G0 a (.lst b)) p (.lst acc))) :
    ∀ (ds pre acc b : List D), pre ++ ds = L0 → Each R pre acc → J (.lst b) → wCompL p stay gd tt te env0 Q ds acc (gset (gset G0 a (.lst b)) p (.lst acc))
  | [], pre, acc, b, e, hs, hb => ⟨hst _ _, gset_same, fin acc b hb (by rw [List.append_nil] at e; rw [← e]; exact hs)⟩
  | d :: r, pre, acc, b, e, hs, hb => ⟨hst _ _, h d (by rw [← e]; simp) b acc (fun acc' G' => wCompL p stay gd tt te env0 Q r acc' G') hb fun y b' hy hb' =>
      lc_drawR J R hst L0 h fin r (pre ++ [d]) (acc ++ [y]) b' (by rw [List.append_assoc]; exact e) (hs.snoc hy) hb'⟩
theorem strs_sub : ∀ {cols : List Str} {acc : List D}, List.Sublist acc (cols.map D.str) → ∃ zs, acc = zs.map D.str ∧ List.Sublist zs cols := fun h => by
  obtain ⟨zs, h1, h2⟩ := List.sublist_map_iff.mp h
  exact ⟨zs, h2, h1⟩
def DrawP (m : Int) (x y : D) : Prop := ∃ (z : Str) (v : Int), x = .str z ∧ y = .tup [.str z, .int v] ∧ 0 ≤ v ∧ v < m
theorem pairs_of {m : Int} : ∀ {zs : List Str} {acc : List D}, Each (DrawP m) (zs.map D.str) acc → ∃ ps : List (Str × Int), acc = prs ps ∧ ps.map (·.1) = zs ∧ ∀ p ∈ ps, 0 ≤ p.2 ∧ p.2 < m
  | [], _, .nil => ⟨[], rfl, rfl, fun _ h => nomatch h⟩
  | z :: zs, _, .cons ⟨z', v, ez, e, v0, v1⟩ t => by
    obtain ⟨ps, e1, e2, h3⟩ := pairs_of t
    cases ez
    subst e
    refine ⟨(z, v) :: ps, by rw [e1]; rfl, by rw [List.map_cons, e2], fun p hp => ?_⟩
    rcases List.mem_cons.mp hp with rfl | hp
    · exact ⟨v0, v1⟩
    · exact h3 p hp
theorem nid_prs (ps : List (Str × Int)) : NID (prs ps) := by
  cases ps <;> exact trivial
theorem read_law_pairs (ds : List D) (G : GH) (Q : DK) (Ex : DX) (h : sp_law_pairs ds G Q Ex) : t_law_pairs (endsOf Q Ex) (startD ["_law_bag_here", "_law_world_here", "_law_columns", "_law_terms", "_law_some", "_law_column", "_law_one_here"] ds) G := by
  obtain ⟨a, b, n, ts, t, rfl, g, hb, ok, ht, q⟩ := h
  have tok := ok.ok t ht
  unfold t_law_pairs
  walk_at "rd"
  intro p np
  have hap : p ≠ a := by rintro rfl; rw [g] at np; cases np
  rw [← gset_id g]
  refine lc_sift (J := fun d => ∃ b, d = .lst b ∧ BagOk b) (fun _ _ => trivial) (fun d b acc kk hJ hk => ?_) (t.cols.map D.str) (fun acc b2 hJ hsub => ?_) _ [] [] b rfl (List.Sublist.refl _) ⟨_, rfl, hb⟩
  · obtain ⟨b0, e, hb0⟩ := hJ
    cases e
    walk_at "rd"
    refine take_call (by decide) (by decide) (gset_two hap) hb0 fun v b' v0 v1 hb' => ?_
    rw [gset_swap hap]
    obtain ⟨k1, k2⟩ := hk b' ⟨_, rfl, hb'⟩
    walk_at "rd"
    by_cases e : v = 0
    · rw [if_pos e]
      first | exact k2 | exact ⟨gset_same, by rw [gset_gset]; exact k2⟩
    · rw [if_neg e]
      exact k1
  · obtain ⟨b0, e, hb0⟩ := hJ
    cases e
    obtain ⟨zs, rfl, hzs⟩ := strs_sub hsub
    rw [gdel_gset (by rw [gset_ne hap]; exact np)]
    intro p2 np2
    have hap2 : p2 ≠ a := by rintro rfl; rw [gset_same] at np2; cases np2
    have np3 : G p2 = none := by rw [gset_ne hap2] at np2; exact np2
    refine lc_drawR (J := fun d => ∃ b, d = .lst b ∧ BagOk b) (R := DrawP (n : Int)) (fun _ _ => trivial) (zs.map D.str) (fun d hd b acc kk hJ hk => ?_) (fun acc b3 hJ hE => ?_) _ [] [] b2 rfl .nil ⟨_, rfl, hb0⟩
    · obtain ⟨b0, e, hb0⟩ := hJ
      cases e
      obtain ⟨z, hz, rfl⟩ := List.mem_map.mp hd
      walk_at "rd"
      refine ⟨a, b, n, ts, rfl, gset_two hap2, hb0, ok, fun v b' v0 v1 hb' => ?_⟩
      rw [gset_swap hap2]
      refine ⟨by rw [sizeLine_eq]; decide, ?_⟩
      have := hk (.tup [.str z, .int v]) b' ⟨z, v, rfl, rfl, v0, v1⟩ ⟨_, rfl, hb'⟩
      first | exact this | exact ⟨gset_same, by rw [gset_gset]; exact this⟩
    · obtain ⟨b0, e, hb0⟩ := hJ
      cases e
      obtain ⟨ps, rfl, e2, h3⟩ := pairs_of hE
      rw [gdel_gset (by rw [gset_ne hap2]; exact np3)]
      have ln : ps.length ≤ 3 := by
        have h1 := congrArg List.length e2
        rw [List.length_map] at h1
        have h2 := hzs.length_le
        have h3 := tok.hi
        omega
      refine tupp_lst (by rw [prs_len, sizeLine_eq]; omega) (nid_prs ps) ?_
      refine q ps _ ⟨by rw [e2]; exact hzs.nodup tok.nd, fun p hp => ?_, h3, ln⟩ hb0
      refine hzs.subset ?_
      rw [← e2]
      exact List.mem_map.mpr ⟨p, hp, rfl⟩
end K19
set_option Elab.async false
set_option linter.all false
set_option maxRecDepth 100000
set_option maxHeartbeats 4000000
namespace K19
open PySem PySem.Spec PyProof.Rows L2 DL KS KR
open KL hiding sp_law_take sp_law_alike sp_law_bag sp_is_integer sp_is_name
local macro_rules | `(tactic| walk_at "rd") => `(tactic| simp only [wWk, wk_p, wk_t, wk_l, D.tupp.injEq, eqO_p, neO_p, topD_p, tyD_p, wTupP, reprL_1, wTix, wLix, wDGet2, wSeq, wRet, wRetN, wNext, wSet, wIfS, wTest, wOp, wC, wVar, wCall, wCons, wNil, wAnd, wOr, wNot, wAndT, wOrT, wNotT, wAugI, wAug, augMul, augMulW, wSetI, wChain, wRaise, wTryAs, wFn, wLstM, wLst, wTup, wSl, wPart, wNoPart, wMS, wYes, wPar, wAsg, wDisp, wPairs, wiRange, wiEnum, wiEnumS, wiSeq, exists_eq', exists_eq, List.cons.injEq, wipeE, gdName, wExpr, wLc, wDc, wiStr, wiLst, wiTup, itO_l, itO_f, itO_r, itS_t, itS_l, itS_r, inSO_1, notInSO_1, isBO_1, notBO_1, wIf, wFor, wIsiT, wFld, wGet, wRev, revO_t, revO_l, wFrzL, wFrz, frzL_l, frzL_r, frzO_r, wML, wMeth, wSetF, wLenSet, gdTupN_2, gdTupN_3, gdPat_in, iB_tt, iB_lt, iB_tl, iB_ll, wh_int, decide_true, decide_false, Bool.not_eq_true, Bool.and_self, Bool.and_true, Bool.true_and,
  lk, startD, List.map_cons, List.map_nil, List.length_cons, List.length_nil, List.replicate, List.cons_append, List.nil_append, Option.some.injEq, DO.lst.injEq, DO.ins.injEq, exists_eq_left', exists_eq_left, exists_and_left, D.bl.injEq, D.int.injEq, D.str.injEq, D.ref.injEq, D.ty.injEq, D.tup.injEq, D.lst.injEq, List.set_cons_zero, List.set_cons_succ, Nat.sub_self, Nat.reduceAdd, Nat.reduceSub, true_and, and_true, if_true, if_false, ite_true, ite_false, Bool.false_eq_true, reduceIte, Bool.not_true, Bool.not_false,
  int0_ii, intO_ii, addO_ii, addO_ss, addO_tt, addO_ll, mulDO_ii, mulDO_li, mulDO_ti, mulDO_si, ixO_t, ixO_l, ixO_f, ixO_s, ixO_r, negO_c, lenO_1, lenO1_s, lenO1_t, lenO1_l, lenO1_f, absO_i, allO_1, isiO_1, reprO_1, joinO_1, appendO_1, slO_t, slO_l, slO_f, slO_s, setO_ri, augAt_ri, topD_i, topD_s, topD_b, topD_n, topD_t, topD_l, topD_f, topD_d, okD_i, okD_b, okD_n, eqD_ii, tyD_n, tyD_b, tyD_i, tyD_s, tyD_t, tyD_l, tyD_f, tyD_d, eqO_ss, eqO_i, eqO_b, eqO_l, eqO_t, eqO_r, neO_ss, neO_i, neO_b, neO_l, neO_t, neO_r, eqG, neG, atI_0, atI_1, atI_2, atI_3, ixN_40, ixN_41, ixN_42, Int.reduceLE, Int.reduceLT, gset_same, gset_gset, decide_eq_true_eq])

def wr_B : TSd := (wSeq (wSet 8 (wFn sp_law_pairs (wCons (wVar 0) (wCons (wVar 1) (wCons (wWk (wVar 4)) (wCons (wVar 2) wNil))))))
  (wSeq (wIfS (wTest (wOp eqO (wVar 6) (wC (.int 2)))) (wRet (wTup (wCons (wC (.str "delete")) (wCons (wVar 3) (wCons (wVar 8) wNil))))) wNext)
  (wSeq (wSet 9 (wFn sp_law_pairs (wCons (wVar 0) (wCons (wVar 1) (wCons (wWk (wVar 4)) (wCons (wVar 2) wNil))))))
  (wSeq (wIfS (wTest (wOp eqO (wVar 9) (wTup wNil))) (wSet 9 (wTupP (wCons (wTup (wCons (wOp ixO (wWk (wVar 4)) (negO (wC (.int 1)))) (wCons (wFn sp_law_drawn_term (wCons (wVar 0) (wCons (wVar 1) (wCons (wVar 2) wNil)))) wNil))) wNil))) wNext)
  (wRet (wTup (wCons (wC (.str "update")) (wCons (wVar 3) (wCons (wVar 8) (wCons (wVar 9) wNil))))))))))
theorem t_law_written_eq : t_law_written = (wSeq (wAsg (wFn sp_law_one (wCons (wVar 0) (wCons (wGet (wVar 1) (wC (.str "tables"))) wNil))) (gdTupN [3, 4, 5]))
  (wSeq (wSet 6 (wFn sp_law_take (wCons (wVar 0) (wCons (wC (.int 4)) wNil))))
  (wSeq (wIfS (wTest (wOp ltO (wVar 6) (wC (.int 2)))) (wSeq (wSet 7 (wLc (wiTup (wWk (wVar 4))) (gdName 10) wYes (wFn sp_law_drawn_term (wCons (wVar 0) (wCons (wVar 1) (wCons (wVar 2) wNil)))) [10]))
  (wRet (wTup (wCons (wOp ixO (wLst (wCons (wC (.str "insert")) (wCons (wC (.str "offer")) wNil))) (wVar 6)) (wCons (wVar 3) (wCons (wCall tupleO (wCons (wVar 7) wNil)) wNil)))))) wNext)
  wr_B))) := rfl

theorem two_kinds {v : Int} (v0 : 0 ≤ v) (v2 : v < 2) : ∃ k, atI [D.str "insert", D.str "offer"] v = some (.str (kindZ k)) := by
  have : v = 0 ∨ v = 1 := by omega
  rcases this with rfl | rfl
  · exact ⟨true, rfl⟩
  · exact ⟨false, rfl⟩
theorem last_col {t : Tab} (h : 1 ≤ t.cols.length) : ∃ z, z ∈ t.cols ∧ atI (t.cols.map D.str) (-1) = some (.str z) := by
  have e : ixN (t.cols.map D.str).length (-1) = some (t.cols.length - 1) := by
    rw [List.length_map]
    unfold ixN
    rw [if_neg (by omega), if_pos (by omega)]
    congr 1
    omega
  have hl : t.cols.length - 1 < t.cols.length := by omega
  refine ⟨t.cols[t.cols.length - 1], List.getElem_mem hl, ?_⟩
  unfold atI
  rw [e]
  show (t.cols.map D.str)[t.cols.length - 1]? = _
  rw [List.getElem?_map, List.getElem?_eq_getElem hl]
  rfl
theorem eqD_prs (ps : List (Str × Int)) : eqD (.tupp (prs ps)) (.tup []) = ps.isEmpty := by
  unfold eqD pyD
  rw [PyData.eqv]
  cases ps with
  | nil => rfl
  | cons p ps =>
    unfold prs
    rw [List.map_cons]
    unfold pyDs
    rfl
theorem sm_prs {n : Nat} {t : Tab} {ps : List (Str × Int)} (n4 : n ≤ 4) (tok : TabOk n t) (po : PairsOk n t ps) : Sm (.tupp (prs ps)) 60 2 := by
  have h3 := po.len
  refine (sm_tupp (b := 18) (k := 1) fun x hx => ?_).mono (by rw [prs_len]; omega) (Nat.le_refl _)
  obtain ⟨p, hp, rfl⟩ := List.mem_map.mp hx
  have nz := tok.cols p.1 (po.cl p hp)
  have hv := po.lo p hp
  refine (sm_tup (b := 8) (k := 0) fun y hy => ?_).mono (by show 2 * 9 ≤ 18; decide) (Nat.le_refl _)
  simp only [List.mem_cons, List.not_mem_nil, or_false] at hy
  rcases hy with rfl | rfl
  · exact (sm_str nz.2).mono (name_len nz).2 (Nat.le_refl _)
  · exact (sm_int (by omega)).mono (by decide) (Nat.le_refl _)
theorem read_law_written (ds : List D) (G : GH) (Q : DK) (Ex : DX) (h : sp_law_written ds G Q Ex) : t_law_written (endsOf Q Ex) (startD ["_law_bag_here", "_law_world_here", "_law_terms", "_law_name", "_law_columns", "_law_keys", "_law_way", "_law_row_here", "_law_where", "_law_sets", "_law_column"] ds) G := by
  obtain ⟨a, b, n, ts, rfl, g, hb, ok, q⟩ := h
  have n1 := ok.lo
  have n4 := ok.hi
  have t1 := ok.tlo
  have t3 := ok.thi
  have z : ∀ n : Nat, n ≤ 30 → n ≤ sizeLine := fun n h => by rw [sizeLine_eq]; omega
  rw [t_law_written_eq]
  walk_at "rd"
  refine wg_tabs (n := n) (ts := ts) ?_
  refine ⟨a, b, tabsD ts, rfl, g, hb, by rw [tabs_len]; omega, by rw [tabs_len, sizeLine_eq]; omega, fun d b1 hd hb1 => ?_⟩
  obtain ⟨t, ht, rfl⟩ := tabs_mem hd
  have tok := ok.ok t ht
  unfold tabD colsD
  walk_at "rd"
  refine take_call (by decide) (by decide) gset_same hb1 fun way b2 w0 w1 hb2 => ?_
  rw [gset_gset]
  unfold wr_B
  walk_at "rd"
  by_cases w2 : way < 2
  · rw [if_pos w2]
    intro p np
    have hap : p ≠ a := by rintro rfl; rw [gset_same] at np; cases np
    have np0 : G p = none := by rw [gset_ne hap] at np; exact np
    refine lc_draw (J := fun d => ∃ b, d = .lst b ∧ BagOk b) (R := fun y => ∃ i, y = .int i ∧ 0 ≤ i ∧ i < (n : Int)) (n := t.cols.length) (fun _ _ => trivial) (fun d b acc kk hJ hk => ?_) (fun acc b2 hR hl hJ => ?_) (t.cols.map D.str) [] b2 ?_ (fun _ h => nomatch h) ⟨_, rfl, hb2⟩
    · obtain ⟨b0, e, hb0⟩ := hJ
      cases e
      walk_at "rd"
      refine ⟨a, b, n, ts, rfl, gset_two hap, hb0, ok, fun v b' v0 v1 hb' => ?_⟩
      rw [gset_swap hap]
      have := hk (.int v) b' ⟨v, rfl, v0, v1⟩ ⟨_, rfl, hb'⟩
      first | exact this | exact ⟨gset_same, this⟩ | exact ⟨gset_same, by rw [gset_gset]; exact this⟩
    · obtain ⟨b0, e, hb0⟩ := hJ
      cases e
      obtain ⟨ns, rfl, hns⟩ := ints_of_all hR
      have hl : ns.length = t.cols.length := by simpa using hl
      have hi := tok.hi
      rw [gdel_gset (by rw [gset_ne hap]; exact np0)]
      obtain ⟨k, ek⟩ := two_kinds w0 w2
      refine ⟨z 2 (by decide), _, ek, ?_⟩
      refine KS.tup_lst (by rw [List.length_map, sizeLine_eq]; omega) ?_
      refine ⟨z 3 (by decide), ?_⟩
      exact q (.ins k t ns) _ ⟨ht, hl, hns⟩ hb0
    · simp
  · rw [if_neg w2]
    refine ⟨a, b2, n, ts, t, rfl, gset_same, hb2, ok, ht, fun ps b3 hps hb3 => ?_⟩
    rw [gset_gset]
    walk_at "rd"
    by_cases w3 : way = 2
    · rw [if_pos w3]
      exact ⟨z 3 (by decide), q (.del t ps) _ ⟨ht, hps⟩ hb3⟩
    · rw [if_neg w3]
      refine ⟨a, b3, n, ts, t, rfl, gset_same, hb3, ok, ht, fun ss b4 hss hb4 => ?_⟩
      rw [gset_gset]
      refine ⟨z 0 (by decide), (sm_prs n4 tok hss).ok (by decide), rfl, ?_⟩
      rw [topD_p, topD_t, eqD_prs]
      refine ⟨_, rfl, ?_⟩
      cases ss with
      | cons p0 ss => exact ⟨z 4 (by decide), q (.upd t ps (p0 :: ss)) _ ⟨ht, hps, hss⟩ hb4⟩
      | nil =>
        rw [if_pos (by rfl)]
        obtain ⟨c, hc, ec⟩ := last_col tok.lo
        refine ⟨_, ec, a, b4, n, ts, rfl, gset_same, hb4, ok, fun v b5 v0 v1 hb5 => ?_⟩
        rw [gset_gset]
        refine ⟨z 2 (by decide), z 1 (by decide), trivial, z 4 (by decide), ?_⟩
        exact q (.upd t ps [(c, v)]) _ ⟨ht, hps, by simp, fun p hp => by rw [List.mem_singleton.mp hp]; exact hc, fun p hp => by rw [List.mem_singleton.mp hp]; exact ⟨v0, v1⟩, by show 1 ≤ 3; decide⟩ hb5
def neP (r : List Int) : D → Option D
  | .tup [.int k, .int v] => if r.getD k.toNat 0 = v then none else some (.int 1)
  | _ => none
theorem ne_list (t : Tab) (r : List Int) : ∀ w : List (Str × Int), (∀ x ∈ (w.map fun p => D.tup [D.int (ixS t.cols p.1 : Nat), D.int p.2]).filterMap (fun d => neP r d), x = .int 1) ∧
    ((w.map fun p => D.tup [D.int (ixS t.cols p.1 : Nat), D.int p.2]).filterMap (fun d => neP r d)).isEmpty = matchR t w r ∧ ((w.map fun p => D.tup [D.int (ixS t.cols p.1 : Nat), D.int p.2]).filterMap (fun d => neP r d)).length ≤ w.length
  | [] => ⟨fun _ h => (nomatch h), rfl, Nat.le_refl _⟩
  | p :: w => by
    obtain ⟨l1, l2, l3⟩ := ne_list t r w
    have en : neP r (.tup [.int (ixS t.cols p.1 : Nat), .int p.2]) = if atC t r p.1 = p.2 then none else some (.int 1) := by
      show (if r.getD (Int.toNat (ixS t.cols p.1 : Nat)) 0 = p.2 then none else some (D.int 1)) = _
      rw [Int.toNat_natCast]
      rfl
    rw [List.map_cons, List.filterMap_cons, en]
    have em : matchR t (p :: w) r = (decide (atC t r p.1 = p.2) && matchR t w r) := rfl
    rw [em]
    by_cases e : atC t r p.1 = p.2
    · rw [if_pos e, decide_eq_true e, Bool.true_and]
      exact ⟨l1, l2, by rw [List.length_cons]; exact Nat.le_succ_of_le l3⟩
    · rw [if_neg e, decide_eq_false e, Bool.false_and]
      refine ⟨fun x hx => ?_, rfl, Nat.succ_le_succ l3⟩
      rcases List.mem_cons.mp hx with rfl | hx
      · rfl
      · exact l1 x hx
theorem read_law_found (ds : List D) (G : GH) (Q : DK) (Ex : DX) (h : sp_law_found ds G Q Ex) : t_law_found (endsOf Q Ex) (startD ["_law_world_here", "_law_table_here", "_law_where", "_law_database", "_law_spot", "_law_columns", "_law_keys", "_law_pairs_here", "_law_found_here", "_law_row_here", "_law_column", "_law_value", "_law_k"] ds) G := by
  obtain ⟨n, ts, cs, t, w, rfl, ok, db, ht, po, q⟩ := h
  have tok := ok.ok t ht
  obtain ⟨r1, r2, r3⟩ := rows_at ok db ht
  unfold t_law_found
  walk_at "rd"
  refine ⟨n, ts, t, rfl, ok, ht, ?_⟩
  unfold colsD
  walk_at "rd"
  intro p np
  refine lc_map (fun d => match d with | .tup [.str z, v] => some (.tup [.int (ixS t.cols z : Nat), v]) | _ => none) (fun _ => trivial) _ [] (fun d hd acc kk hk => ?_) ?_
  · obtain ⟨⟨z, v⟩, hm, rfl⟩ := List.mem_map.mp hd
    walk_at "rd"
    refine ⟨t.cols, rfl, po.cl _ hm, by rw [sizeLine_eq]; decide, ?_⟩
    first | exact hk | exact ⟨gset_same, by rw [gset_gset]; exact hk⟩
  · rw [List.nil_append, gdel_gset np]
    have e1 : (prs w).filterMap (fun d => match d with | .tup [.str z, v] => some (D.tup [.int (ixS t.cols z : Nat), v]) | _ => none) = w.map fun p => D.tup [.int (ixS t.cols p.1 : Nat), .int p.2] := by
      unfold prs
      rw [List.filterMap_map, ← List.filterMap_eq_map]
      rfl
    rw [e1]
    refine ⟨Nat.zero_le _, fun pf npf => ?_⟩
    unfold dbD
    rw [ixO_t]
    refine ⟨_, db_at ok db ht, _, rfl, ?_⟩
    refine wForL_ix (I := fun i env G' => ∃ y9, env = [some (worldD n ts), some (D.str t.nm), some (D.tupp (prs w)), some (D.tup (cs.map contD)), some (D.int (spot ts t : Nat)), some (D.tupp (List.map D.str t.cols)), some (D.int t.keys), some (D.lst (w.map fun p => D.tup [.int (ixS t.cols p.1 : Nat), .int p.2])), some (.ref pf), y9, none, none, none] ∧
      G' = gset G pf (.lst ((((rowsOf ts cs t).take i).filter (matchR t w)).map rowD))) ?_ ?_ _ _ ⟨none, rfl, rfl⟩
    · rintro env G1 ⟨y9, rfl, rfl⟩
      refine ⟨trivial, ?_⟩
      walk_at "rd"
      rw [List.length_map, List.take_length] 
      rw [gdel_gset npf]
      exact q
    · rintro i d env G1 nx hd ⟨y9, rfl, rfl⟩ hnx
      rw [List.getElem?_map] at hd
      obtain ⟨r, hr, rfl⟩ := Option.map_eq_some_iff.mp hd
      have ro := r3 r (List.mem_of_getElem? hr)
      refine ⟨trivial, ?_⟩
      walk_at "rd"
      intro p2 np2
      refine lc_map (fun d => neP r d) (fun _ => trivial) _ [] (fun d hd acc kk hk => ?_) ?_
      · obtain ⟨⟨z, v⟩, hm, rfl⟩ := List.mem_map.mp hd
        have ra := row_at ro (po.cl _ hm)
        have en : neP r (.tup [.int (ixS t.cols z : Nat), .int v]) = if atC t r z = v then none else some (.int 1) := by
          show (if r.getD (Int.toNat (ixS t.cols z : Nat)) 0 = v then none else some (D.int 1)) = _
          rw [Int.toNat_natCast]
          rfl
        rw [en] at hk
        rw [show rowD r = D.tup (r.map D.int) from rfl]
        walk_at "rd"
        refine ⟨_, ra, ?_⟩
        walk_at "rd"
        by_cases ev : atC t r z = v
        · rw [if_pos ev] at hk
          rw [decide_eq_true ev]
          simpa using hk
        · rw [if_neg ev] at hk
          rw [decide_eq_false ev]
          exact hk
      · rw [List.nil_append]
        obtain ⟨l1, l2, l3⟩ := ne_list t r w
        generalize (List.map (fun p => D.tup [D.int (ixS t.cols p.1 : Nat), D.int p.2]) w).filterMap (fun d => neP r d) = L at l1 l2 l3 ⊢
        have po3 := po.len
        have okL : okD (.lst L) = true := (sm_lst (b := 0) (k := 0) fun x hx => by rw [l1 x hx]; exact sm_int (by decide)).ok (by decide)
        refine ⟨Nat.zero_le _, okL, rfl, ?_⟩
        rw [KL.eqD_nil, l2, gdel_gset np2]
        have hi := (List.getElem?_eq_some_iff.mp hr).1
        have tk : (((rowsOf ts cs t).take (i + 1)).filter (matchR t w)).map rowD = (((rowsOf ts cs t).take i).filter (matchR t w)).map rowD ++ (if matchR t w r = true then [rowD r] else []) := by
          rw [List.take_succ, hr, List.filter_append, List.map_append]
          by_cases e : matchR t w r = true
          · rw [if_pos e]
            simp [e]
          · rw [if_neg e]
            simp [e]
        by_cases e : matchR t w r = true
        · rw [if_pos e]
          rw [if_pos e] at tk
          refine ⟨_, gset_same, _, gset_same, ?_, ?_⟩
          · rw [List.length_map, sizeLine_eq]
            have := List.length_filter_le (matchR t w) ((rowsOf ts cs t).take i)
            rw [List.length_take] at this
            omega
          · rw [gset_gset, ← tk]
            exact hnx _ _ ⟨_, rfl, rfl⟩
        · rw [if_neg e]
          rw [if_neg e, List.append_nil] at tk
          rw [← tk]
          exact hnx _ _ ⟨_, rfl, rfl⟩
def hh_B : TSd := (wSeq (wAsg (wTup (wCons (wOp ixO (wFn sp_law_table (wCons (wVar 0) (wCons (wOp ixO (wVar 1) (wC (.int 1))) wNil))) (wC (.int 1))) (wCons (wCall dictTO (wCons (wOp ixO (wVar 1) (wC (.int 3))) wNil)) (wCons (wLstM wNil) wNil)))) (gdTupN [4, 5, 6]))
  (wSeq (wFor (wiLst (wVar 3)) (gdName 7) (wSeq (wSet 8 (wLc (wiRange (wCons (wCall lenO (wCons (wVar 7) wNil)) wNil)) (gdName 9) wYes (wDGet2 (wVar 5) (wOp ixO (wWk (wVar 4)) (wVar 9)) (wOp ixO (wVar 7) (wVar 9))) [9]))
  (wExpr (wML appendO (wVar 6) (wCons (wTup (wCons (wVar 7) (wCons (wCall tupleO (wCons (wVar 8) wNil)) wNil))) wNil)))))
  (wRet (wFrzL (wVar 6)))))
theorem t_law_hits_eq : t_law_hits = (wSeq (wIfS (wTest (wOp inTxO (wOp ixO (wVar 1) (wC (.int 0))) (wTup (wCons (wC (.str "insert")) (wCons (wC (.str "offer")) wNil))))) (wRet (wLst (wCons (wTup (wCons (wC .non) (wCons (wOp ixO (wVar 1) (wC (.int 2))) wNil))) wNil))) wNext)
  (wSeq (wSet 3 (wFn sp_law_found (wCons (wVar 0) (wCons (wOp ixO (wVar 1) (wC (.int 1))) (wCons (wOp ixO (wVar 1) (wC (.int 2))) (wCons (wVar 2) wNil))))))
  (wSeq (wIfS (wTest (wOp eqO (wOp ixO (wVar 1) (wC (.int 0))) (wC (.str "delete")))) (wRet (wLc (wiLst (wVar 3)) (gdName 7) wYes (wTup (wCons (wVar 7) (wCons (wC .non) wNil))) [7])) wNext)
  hh_B))) := rfl

theorem pairs_prs (s : List (Str × Int)) : pairsD (s.map (·.1)) (s.map fun p => D.int p.2) = prs s := by
  unfold pairsD prs
  rw [List.zip_map', List.map_map]
  rfl
def putK1 (l : List Int) : D → D
  | .int k => .int (l.getD k.toNat 0)
  | d => d
theorem mem_rangeD {m : Nat} {d : D} (h : d ∈ rangeD m) : ∃ k : Nat, k < m ∧ d = .int k := by
  unfold rangeD at h
  obtain ⟨k, hk, e⟩ := List.mem_map.mp h
  exact ⟨k, List.mem_range.mp hk, e.symm⟩
theorem range_get (l : List Int) : (rangeD l.length).filterMap (fun d => some (putK1 l d)) = l.map D.int := by
  rw [List.filterMap_eq_map']
  unfold rangeD
  rw [List.map_map]
  refine List.ext_getElem? fun i => ?_
  rw [List.getElem?_map, List.getElem?_map]
  by_cases h : i < l.length
  · rw [List.getElem?_range h, List.getElem?_eq_getElem h]
    show some (D.int (l.getD (Int.toNat (i : Int)) 0)) = _
    rw [Int.toNat_natCast, List.getD_eq_getElem?_getD, List.getElem?_eq_getElem h]
    rfl
  · rw [List.getElem?_eq_none (by rw [List.length_range]; omega), List.getElem?_eq_none (by omega)]
    rfl
theorem read_law_hits (ds : List D) (G : GH) (Q : DK) (Ex : DX) (h : sp_law_hits ds G Q Ex) : t_law_hits (endsOf Q Ex) (startD ["_law_world_here", "_law_statement", "_law_database", "_law_rows", "_law_columns", "_law_sets", "_law_found_here", "_law_row_here", "_law_new", "_law_k"] ds) G := by
  obtain ⟨n, ts, cs, st, rfl, ok, db, so, q⟩ := h
  have z : ∀ n : Nat, n ≤ 30 → n ≤ sizeLine := fun n h => by rw [sizeLine_eq]; omega
  rw [t_law_hits_eq]
  cases st with
  | ins kd t r =>
    obtain ⟨ht, ro⟩ := so
    unfold Stm.D
    walk_at "rd"
    refine ⟨z 2 (by decide), _, _, rfl, rfl, ⟨_, rfl⟩, ?_⟩
    rw [kind_any kd]
    walk_at "rd"
    exact ⟨z 2 (by decide), z 1 (by decide), q⟩
  | del t w =>
    obtain ⟨ht, po⟩ := so
    unfold Stm.D
    walk_at "rd"
    refine ⟨z 2 (by decide), _, _, rfl, rfl, ⟨_, rfl⟩, ?_⟩
    rw [show ([("insert" : Str), "offer"]).any (isTx (.str "delete")) = false by decide]
    walk_at "rd"
    refine ⟨n, ts, cs, t, w, rfl, ok, db, ht, po, ?_⟩
    walk_at "rd"
    intro p np
    refine lc_map (fun d => some (.tup [d, .non])) (fun _ => trivial) _ [] (fun d hd acc kk hk => ?_) ?_
    · walk_at "rd"
      first | exact ⟨z 2 (by decide), hk⟩ | exact ⟨z 2 (by decide), gset_same, by rw [gset_gset]; exact hk⟩
    · rw [List.nil_append, gdel_gset np, List.filterMap_eq_map', List.map_map]
      exact q
  | upd t w s =>
    obtain ⟨ht, po, ps⟩ := so
    have tok := ok.ok t ht
    obtain ⟨r1, r2, r3⟩ := rows_at ok db ht
    unfold Stm.D
    walk_at "rd"
    refine ⟨z 2 (by decide), _, _, rfl, rfl, ⟨_, rfl⟩, ?_⟩
    rw [show ([("insert" : Str), "offer"]).any (isTx (.str "update")) = false by decide]
    walk_at "rd"
    refine ⟨n, ts, cs, t, w, rfl, ok, db, ht, po, ?_⟩
    walk_at "rd"
    rw [if_neg (by decide)]
    unfold hh_B
    walk_at "rd"
    refine ⟨n, ts, t, rfl, ok, ht, ?_⟩
    walk_at "rd"
    refine ⟨s.map (·.1), s.map fun p => D.int p.2, by rw [pairs_prs], by rw [List.length_map, List.length_map], ps.nd, ?_⟩
    refine ⟨z 0 (by decide), fun p np => ⟨z 3 (by decide), ?_⟩⟩
    refine wForL_ix (I := fun i env G' => ∃ y7 y8, env = [some (worldD n ts), some (D.tup [D.str (Str.ofString "update"), D.str t.nm, D.tupp (prs w), D.tupp (prs s)]), some (dbD cs),
        some (D.lst (List.map rowD (foundR ts cs t w))), some (colsD t), some (.dic ((s.map (·.1)).map Sum.inr) (s.map fun p => D.int p.2)), some (D.ref p), y7, y8, none] ∧ G' = gset G p (.lst (((foundR ts cs t w).take i).map fun r => D.tup [rowD r, rowD (putR t s r)]))) ?_ ?_ _ _ ⟨none, none, rfl, rfl⟩
    · rintro env G1 ⟨y7, y8, rfl, rfl⟩
      refine ⟨trivial, ?_⟩
      walk_at "rd"
      rw [List.length_map, List.take_length, gdel_gset np]
      exact q
    · rintro i d env G1 nx hd ⟨y7, y8, rfl, rfl⟩ hnx
      rw [List.getElem?_map] at hd
      obtain ⟨r, hr, rfl⟩ := Option.map_eq_some_iff.mp hd
      have hr2 := (List.mem_filter.mp (List.mem_of_getElem? hr)).1
      obtain ⟨ro1, ro2⟩ := r3 r hr2
      have hi := tok.hi
      have lp : (putR t s r).length = r.length := by
        unfold putR
        rw [List.length_map, List.length_zip]
        omega
      refine ⟨trivial, ?_⟩
      rw [show rowD r = D.tup (r.map D.int) from rfl]
      unfold colsD
      walk_at "rd"
      rw [List.length_map]
      refine ⟨by omega, by omega, fun p2 np2 => ?_⟩
      rw [Int.toNat_natCast]
      refine lc_map (fun d => some (putK1 (putR t s r) d)) (fun _ => trivial) _ [] (fun d hd acc kk hk => ?_) ?_
      · obtain ⟨k, hk1, rfl⟩ := mem_rangeD hd
        have c1 : t.cols[k]? = some t.cols[k] := List.getElem?_eq_getElem (by omega)
        have c2 : r[k]? = some r[k] := List.getElem?_eq_getElem hk1
        have a1 : atI (t.cols.map D.str) (k : Nat) = some (.str t.cols[k]) := by rw [DL.atI_nat, List.getElem?_map, c1]; rfl
        have a2 : atI (r.map D.int) (k : Nat) = some (.int r[k]) := by rw [DL.atI_nat, List.getElem?_map, c2]; rfl
        have e := look_set t.cols[k] r[k] s
        have ep : putK1 (putR t s r) (.int k) = .int (setV s t.cols[k] r[k]) := by
          show D.int ((putR t s r).getD (Int.toNat k) 0) = _
          unfold putR
          have cz : (t.cols.zip r)[k]? = some (t.cols[k], r[k]) := List.getElem?_zip_eq_some.mpr ⟨c1, c2⟩
          rw [Int.toNat_natCast, List.getD_eq_getElem?_getD, List.getElem?_map, cz]
          rfl
        rw [ep] at hk
        walk_at "rd"
        refine ⟨_, _, rfl, _, a1, _, a2, _, rfl, ?_⟩
        rw [List.map_map]
        have e' : (lookK (List.map (Sum.inr ∘ fun x : Str × Int => x.1) s) (List.map (fun p : Str × Int => D.int p.2) s) (.inr t.cols[k])).getD (.int r[k]) = .int (setV s t.cols[k] r[k]) := e
        rw [e']
        first | exact hk | exact ⟨gset_same, by rw [gset_gset]; exact hk⟩
      · rw [List.nil_append, gdel_gset np2]
        have el : (rangeD r.length).filterMap (fun d => some (putK1 (putR t s r) d)) = (putR t s r).map D.int := by
          rw [← lp]
          exact range_get (putR t s r)
        rw [el]
        refine ⟨_, gset_same, ?_⟩
        refine KS.tup_lst (by rw [List.length_map, sizeLine_eq]; omega) ?_
        refine ⟨z 2 (by decide), _, gset_same, ?_, ?_⟩
        · rw [List.length_map, List.length_take, sizeLine_eq]
          have := List.length_filter_le (matchR t w) (rowsOf ts cs t)
          unfold foundR
          omega
        · rw [gset_gset]
          refine hnx _ _ ⟨_, _, rfl, ?_⟩
          rw [List.take_succ, hr, List.map_append]
          rfl
end K19
set_option Elab.async false
set_option linter.all false
set_option maxRecDepth 100000
set_option maxHeartbeats 4000000
namespace K19
open PySem PySem.Spec PyProof.Rows L2 DL KS KR
open KL hiding sp_law_take sp_law_alike sp_law_bag sp_is_integer sp_is_name
local macro_rules | `(tactic| walk_at "rd") => `(tactic| simp only [wWk, wk_p, wk_t, wk_l, D.tupp.injEq, eqO_p, neO_p, topD_p, tyD_p, wTupP, reprL_1, wTix, wLix, wDGet2, wSeq, wRet, wRetN, wNext, wSet, wIfS, wTest, wOp, wC, wVar, wCall, wCons, wNil, wAnd, wOr, wNot, wAndT, wOrT, wNotT, wAugI, wAug, augMul, augMulW, wSetI, wChain, wRaise, wTryAs, wFn, wLstM, wLst, wTup, wSl, wPart, wNoPart, wMS, wYes, wPar, wAsg, wDisp, wPairs, wiRange, wiEnum, wiEnumS, wiSeq, exists_eq', exists_eq, List.cons.injEq, wipeE, gdName, wExpr, wLc, wDc, wiStr, wiLst, wiTup, itO_l, itO_f, itO_r, itS_t, itS_l, itS_r, inSO_1, notInSO_1, isBO_1, notBO_1, wIf, wFor, wIsiT, wFld, wGet, wRev, revO_t, revO_l, wFrzL, wFrz, frzL_l, frzL_r, frzO_r, wML, wMeth, wSetF, wLenSet, gdTupN_2, gdTupN_3, gdPat_in, iB_tt, iB_lt, iB_tl, iB_ll, wh_int, decide_true, decide_false, Bool.not_eq_true, Bool.and_self, Bool.and_true, Bool.true_and,
  lk, startD, List.map_cons, List.map_nil, List.length_cons, List.length_nil, List.replicate, List.cons_append, List.nil_append, Option.some.injEq, DO.lst.injEq, DO.ins.injEq, exists_eq_left', exists_eq_left, exists_and_left, D.bl.injEq, D.int.injEq, D.str.injEq, D.ref.injEq, D.ty.injEq, D.tup.injEq, D.lst.injEq, List.set_cons_zero, List.set_cons_succ, Nat.sub_self, Nat.reduceAdd, Nat.reduceSub, true_and, and_true, if_true, if_false, ite_true, ite_false, Bool.false_eq_true, reduceIte, Bool.not_true, Bool.not_false,
  int0_ii, intO_ii, addO_ii, addO_ss, addO_tt, addO_ll, mulDO_ii, mulDO_li, mulDO_ti, mulDO_si, ixO_t, ixO_l, ixO_f, ixO_s, ixO_r, negO_c, lenO_1, lenO1_s, lenO1_t, lenO1_l, lenO1_f, absO_i, allO_1, isiO_1, reprO_1, joinO_1, appendO_1, slO_t, slO_l, slO_f, slO_s, setO_ri, augAt_ri, topD_i, topD_s, topD_b, topD_n, topD_t, topD_l, topD_f, topD_d, okD_i, okD_b, okD_n, eqD_ii, tyD_n, tyD_b, tyD_i, tyD_s, tyD_t, tyD_l, tyD_f, tyD_d, eqO_ss, eqO_i, eqO_b, eqO_l, eqO_t, eqO_r, neO_ss, neO_i, neO_b, neO_l, neO_t, neO_r, eqG, neG, atI_0, atI_1, atI_2, atI_3, ixN_40, ixN_41, ixN_42, Int.reduceLE, Int.reduceLT, gset_same, gset_gset, decide_eq_true_eq])

def la_again : TSd := (wSeq (wSet 11 (wFn sp_hits (wCons (wVar 4) (wCons (wVar 7) (wCons (wVar 5) wNil)))))
  (wSeq (wIfS (wOrT (wNotT (wTest (wFn sp_law_alike (wCons (wVar 11) (wCons (wVar 9) wNil))))) (wTest (wOp neO (wCall reprO (wCons (wLst (wCons (wVar 7) (wCons (wVar 5) wNil))) wNil)) (wVar 8)))) (wRet (wC (.bl false))) wNext)
  (wSeq (wExpr (wML0 reverseO (wVar 11)))
  (wExpr (wML appendO (wVar 11) (wCons (wC .non) wNil))))))
def la_step : TSd := (wSeq (wSet 7 (wFn sp_law_written (wCons (wVar 1) (wCons (wVar 3) (wCons (wLst wNil) wNil)))))
  (wSeq (wPar 8 9 (wCons (wCall reprO (wCons (wLst (wCons (wVar 7) (wCons (wVar 5) wNil))) wNil)) (wCons (wFn sp_law_hits (wCons (wVar 3) (wCons (wVar 7) (wCons (wVar 5) wNil)))) wNil)))
  (wFor (wiRange (wCons (wC (.int 3)) wNil)) (gdName 10) la_again)))
def la_turn : TSd := (wSeq (wSet 3 (wFn sp_law_world (wCons (wVar 1) (wCons (wFn sp_law_shapes wNil) wNil))))
  (wSeq (wSet 4 (wFn sp_law_schema (wCons (wVar 3) wNil)))
  (wSeq (wSet 5 (wCall tupleO (wCons (wLc (wiLst (wGet (wVar 3) (wC (.str "tables")))) (gdName 12) wYes (wFn sp_law_content (wCons (wVar 1) (wCons (wVar 3) (wCons (wVar 12) (wCons (wC (.int 6)) wNil))))) [12]) wNil)))
  (wFor (wiRange (wCons (wC (.int 6)) wNil)) (gdName 6) la_step))))
theorem t_law_eq : t_law = (wSeq (wSet 1 (wFn sp_law_bag (wCons (wVar 0) wNil)))
  (wSeq (wFor (wiRange (wCons (wC (.int 8)) wNil)) (gdName 2) la_turn)
  (wRet (wC (.bl true))))) := rfl

theorem sm_rowR {n : Nat} {t : Tab} {r : List Int} (n4 : n ≤ 4) (tok : TabOk n t) (h : RowOk n t r) : Sm (rowD r) 3 1 :=
  (row_sm fun i hi => by have := h.2 i hi; omega).mono (by have := tok.hi; have := h.1; rw [List.length_map]; omega) (Nat.le_refl _)
theorem setV_ok {n : Nat} {t : Tab} {s : List (Str × Int)} (po : PairsOk n t s) {z : Str} {v : Int} (hv : 0 ≤ v ∧ v < (n : Int)) : 0 ≤ setV s z v ∧ setV s z v < (n : Int) := by
  unfold setV
  cases e : s.find? (fun p => decide (p.1 = z)) with
  | none => exact hv
  | some p => exact po.lo p (List.mem_of_find?_eq_some e)
theorem putR_ok {n : Nat} {t : Tab} {s : List (Str × Int)} {r : List Int} (po : PairsOk n t s) (h : RowOk n t r) : RowOk n t (putR t s r) := by
  obtain ⟨h1, h2⟩ := h
  refine ⟨by unfold putR; rw [List.length_map, List.length_zip]; omega, fun i hi => ?_⟩
  unfold putR at hi
  obtain ⟨p, hp, rfl⟩ := List.mem_map.mp hi
  exact setV_ok po (h2 _ (List.of_mem_zip hp).2)
theorem sm_stm {n : Nat} {ts : List Tab} {st : Stm} (ok : SetOk n ts) (so : st.ok n ts) : Sm st.D 300 3 := by
  have n4 := ok.hi
  cases st with
  | ins k t r =>
    obtain ⟨ht, ro⟩ := so
    have tok := ok.ok t ht
    refine (sm_tup (b := 8) (k := 1) fun x hx => ?_).mono (by show 3 * 9 ≤ 300; decide) (by decide)
    simp only [List.mem_cons, List.not_mem_nil, or_false] at hx
    rcases hx with rfl | rfl | rfl
    · cases k <;> exact (sm_str (by decide +kernel)).mono (by decide +kernel) (by decide)
    · exact (sm_str tok.nm.2).mono (name_len tok.nm).2 (by decide)
    · exact (sm_rowR n4 tok ro).mono (by decide) (Nat.le_refl _)
  | del t w =>
    obtain ⟨ht, po⟩ := so
    have tok := ok.ok t ht
    refine (sm_tup (b := 60) (k := 2) fun x hx => ?_).mono (by show 3 * 61 ≤ 300; decide) (Nat.le_refl _)
    simp only [List.mem_cons, List.not_mem_nil, or_false] at hx
    rcases hx with rfl | rfl | rfl
    · exact (sm_str (by decide +kernel)).mono (by decide +kernel) (by decide)
    · exact (sm_str tok.nm.2).mono (by have := (name_len tok.nm).2; omega) (by decide)
    · exact sm_prs n4 tok po
  | upd t w s =>
    obtain ⟨ht, po, ps⟩ := so
    have tok := ok.ok t ht
    refine (sm_tup (b := 60) (k := 2) fun x hx => ?_).mono (by show 4 * 61 ≤ 300; decide) (Nat.le_refl _)
    simp only [List.mem_cons, List.not_mem_nil, or_false] at hx
    rcases hx with rfl | rfl | rfl | rfl
    · exact (sm_str (by decide +kernel)).mono (by decide +kernel) (by decide)
    · exact (sm_str tok.nm.2).mono (by have := (name_len tok.nm).2; omega) (by decide)
    · exact sm_prs n4 tok po
    · exact sm_prs n4 tok ps
theorem sm_db {n : Nat} {ts : List Tab} {cs : List (List (List Int))} (ok : SetOk n ts) (db : DbOk n ts cs) : Sm (dbD cs) 75 3 := by
  have n4 := ok.hi
  have t3 := ok.thi
  have hl := db.len
  refine (sm_tup (b := 24) (k := 2) fun x hx => ?_).mono (by rw [List.length_map]; omega) (Nat.le_refl _)
  obtain ⟨c, hc, rfl⟩ := List.mem_map.mp hx
  obtain ⟨i, hi, e⟩ := List.getElem_of_mem hc
  have e1 : cs[i]? = some c := by rw [List.getElem?_eq_getElem hi, e]
  have hi2 : i < ts.length := by omega
  obtain ⟨h1, h2⟩ := db.ok i ts[i] c (List.getElem?_eq_getElem hi2) e1
  have tok := ok.ok _ (List.getElem_mem hi2)
  refine (sm_tup (b := 3) (k := 1) fun y hy => ?_).mono (by rw [List.length_map]; omega) (Nat.le_refl _)
  obtain ⟨r, hr, rfl⟩ := List.mem_map.mp hy
  exact sm_rowR n4 tok (h2 r hr)
theorem show_both {n : Nat} {ts : List Tab} {cs : List (List (List Int))} {st : Stm} (ok : SetOk n ts) (db : DbOk n ts cs) (so : st.ok n ts) : ShowOk (.lst [st.D, dbD cs]) :=
  (sm_lst (b := 300) (k := 3) fun x hx => by
    simp only [List.mem_cons, List.not_mem_nil, or_false] at hx
    rcases hx with rfl | rfl
    · exact sm_stm ok so
    · exact (sm_db ok db).mono (by decide) (Nat.le_refl _)).show (by show 2 * 301 ≤ _; decide) (by decide)
theorem hits_len {n : Nat} {ts : List Tab} {cs : List (List (List Int))} {st : Stm} (ok : SetOk n ts) (db : DbOk n ts cs) (so : st.ok n ts) : (hitsL ts cs st).length ≤ 6 := by
  cases st with
  | ins k t r => show 1 ≤ 6; decide
  | del t w =>
    obtain ⟨_, h, _⟩ := rows_at ok db so.1
    show ((foundR ts cs t w).map _).length ≤ 6
    rw [List.length_map]
    exact Nat.le_trans (List.length_filter_le _ _) h
  | upd t w s =>
    obtain ⟨_, h, _⟩ := rows_at ok db so.1
    show ((foundR ts cs t w).map _).length ≤ 6
    rw [List.length_map]
    exact Nat.le_trans (List.length_filter_le _ _) h
theorem show_hits {n : Nat} {ts : List Tab} {cs : List (List (List Int))} {st : Stm} (ok : SetOk n ts) (db : DbOk n ts cs) (so : st.ok n ts) : ShowOk (.lst (hitsL ts cs st)) := by
  have hl := hits_len ok db so
  have n4 := ok.hi
  refine (sm_lst (b := 8) (k := 2) fun x hx => ?_).show (Nat.le_trans (Nat.mul_le_mul_right _ hl) (by decide)) (by decide)
  have two : ∀ a b : D, Sm a 3 1 → Sm b 3 1 → Sm (.tup [a, b]) 8 2 := fun a b ha hb => sm_tup (b := 3) (k := 1) fun y hy => by
    simp only [List.mem_cons, List.not_mem_nil, or_false] at hy
    rcases hy with rfl | rfl
    · exact ha
    · exact hb
  have non : Sm D.non 3 1 := sm_non.mono (by decide) (by decide)
  cases st with
  | ins k t r =>
    rw [List.mem_singleton.mp (show x ∈ [D.tup [.non, rowD r]] from hx)]
    exact two _ _ non (sm_rowR n4 (ok.ok t so.1) so.2)
  | del t w =>
    obtain ⟨_, _, h⟩ := rows_at ok db so.1
    obtain ⟨r, hr, rfl⟩ := List.mem_map.mp (show x ∈ (foundR ts cs t w).map fun r => D.tup [rowD r, .non] from hx)
    exact two _ _ (sm_rowR n4 (ok.ok t so.1) (h r (List.mem_filter.mp hr).1)) non
  | upd t w s =>
    obtain ⟨_, _, h⟩ := rows_at ok db so.1
    obtain ⟨r, hr, rfl⟩ := List.mem_map.mp (show x ∈ (foundR ts cs t w).map fun r => D.tup [rowD r, rowD (putR t s r)] from hx)
    have ro := h r (List.mem_filter.mp hr).1
    exact two _ _ (sm_rowR n4 (ok.ok t so.1) ro) (sm_rowR n4 (ok.ok t so.1) (putR_ok so.2.2 ro))
theorem tabD_inj {t u : Tab} (h : tabD t = tabD u) : t = u := by
  unfold tabD colsD at h
  rw [D.tup.injEq] at h
  simp only [List.cons.injEq, D.str.injEq, D.tupp.injEq, D.int.injEq, and_true] at h
  obtain ⟨h1, h2, h3⟩ := h
  obtain ⟨a, b, c⟩ := t
  obtain ⟨a', b', c'⟩ := u
  have hb : b = b' := (List.map_inj_right (fun _ _ e => D.str.inj e)).mp h2
  have h3 : (c : Int) = (c' : Int) := h3
  have hc : c = c' := by omega
  have ha : a = a' := h1
  subst ha hb hc
  rfl
def DrawC (n : Nat) (x y : D) : Prop := ∀ t, x = tabD t → ∃ rows : List (List Int), y = contD rows ∧ rows.length ≤ 6 ∧ ∀ r ∈ rows, RowOk n t r
theorem db_of {n : Nat} : ∀ {ts : List Tab} {acc : List D}, Each (DrawC n) (tabsD ts) acc → ∃ cs : List (List (List Int)), acc = cs.map contD ∧ DbOk n ts cs
  | [], _, .nil => ⟨[], rfl, rfl, fun i t c h => by simp at h⟩
  | t :: ts, _, .cons h e => by
    obtain ⟨cs, rfl, db⟩ := db_of e
    obtain ⟨rows, rfl, h1, h2⟩ := h t rfl
    refine ⟨rows :: cs, rfl, by rw [List.length_cons, List.length_cons, db.len], fun i u c hu hc => ?_⟩
    cases i with
    | zero =>
      have hu : t = u := by simpa using hu
      have hc : rows = c := by simpa using hc
      subst hu hc
      exact ⟨h1, h2⟩
    | succ i => exact db.ok i u c (by simpa using hu) (by simpa using hc)
theorem read_again {De : DEnds} {a : Addr} {n : Nat} {ts : List Tab} {cs : List (List (List Int))} {st : Stm} {b : List D} {y0 y2 y6 y10 y11 : Option D} {G : GH} (ok : SetOk n ts) (db : DbOk n ts cs) (so : st.ok n ts) (ga : G a = some (.lst b))
    (nx : ∀ (y11 : Option D) G', G' a = some (.lst b) → De.nx [y0, some (.ref a), y2, some (worldD n ts), some (schemaD n ts), some (dbD cs), y6, some st.D, some (.str (pyR (.lst [st.D, dbD cs])).shown), some (.lst (hitsL ts cs st)), y10, y11, none] G') :
    la_again De [y0, some (.ref a), y2, some (worldD n ts), some (schemaD n ts), some (dbD cs), y6, some st.D, some (.str (pyR (.lst [st.D, dbD cs])).shown), some (.lst (hitsL ts cs st)), y10, y11, none] G := by
  unfold la_again
  walk_at "rd"
  refine ⟨n, ts, cs, st, rfl, ok, db, so, fun p np => ?_⟩
  have ap : a ≠ p := by rintro rfl; rw [ga] at np; cases np
  have hl := hits_len ok db so
  walk_at "rd"
  refine ⟨p, _, rfl, gset_same, show_hits ok db so, ?_⟩
  have sh := show_both ok db so
  refine ⟨true, rfl, ?_⟩
  rw [if_neg (by decide)]
  refine ⟨by rw [sizeLine_eq]; decide, sh.2.1, sh.2.2.1, sh.2.2.2.1, sh.2.2.2.2, ?_⟩
  simp only [wML0]
  walk_at "rd"
  refine ⟨rfl, _, gset_same, _, gset_same, by rw [List.length_reverse, sizeLine_eq]; omega, ?_⟩
  refine nx _ _ ?_
  rw [gset_ne ap, gset_ne ap, gset_ne ap]
  exact ga
theorem read_step {De : DEnds} {a : Addr} {n : Nat} {ts : List Tab} {cs : List (List (List Int))} {b : List D} {y0 y2 y6 y7 y8 y9 y10 y11 : Option D} {G : GH} (ok : SetOk n ts) (db : DbOk n ts cs) (ga : G a = some (.lst b)) (hb : BagOk b)
    (nx : ∀ (b : List D) (y7 y8 y9 y10 y11 : Option D) G', G' a = some (.lst b) → BagOk b → De.nx [y0, some (.ref a), y2, some (worldD n ts), some (schemaD n ts), some (dbD cs), y6, y7, y8, y9, y10, y11, none] G') :
    la_step De [y0, some (.ref a), y2, some (worldD n ts), some (schemaD n ts), some (dbD cs), y6, y7, y8, y9, y10, y11, none] G := by
  unfold la_step
  walk_at "rd"
  refine ⟨Nat.zero_le _, a, b, n, ts, rfl, ga, hb, ok, fun st b1 so hb1 => ?_⟩
  have sh := show_both ok db so
  walk_at "rd"
  refine ⟨by rw [sizeLine_eq]; decide, sh.2.1, sh.2.2.1, sh.2.2.2.1, sh.2.2.2.2, n, ts, cs, st, rfl, ok, db, so, ?_⟩
  refine ⟨_, _, ⟨rfl, rfl⟩, ?_⟩
  refine wForL_ix (I := fun i env G' => ∃ y10 y11, env = [y0, some (.ref a), y2, some (worldD n ts), some (schemaD n ts), some (dbD cs), y6, some st.D, some (.str (pyR (.lst [st.D, dbD cs])).shown), some (.lst (hitsL ts cs st)), y10, y11, none] ∧ G' a = some (.lst b1)) ?_ ?_ _ _ ⟨_, _, rfl, gset_same⟩
  · rintro env G2 ⟨y10, y11, rfl, ga2⟩
    exact ⟨trivial, nx _ _ _ _ _ _ G2 ga2 hb1⟩
  · rintro i d env G2 nx2 hd ⟨y10, y11, rfl, ga2⟩ hnx
    refine ⟨trivial, ?_⟩
    exact read_again ok db so ga2 fun y11 G3 ga3 => hnx _ _ ⟨_, _, rfl, ga3⟩
theorem shapes_ok : ∀ z ∈ shapes, ∃ n sh, KW.ShapeOk z n sh := by
  intro z h
  unfold shapes at h
  simp only [List.mem_cons, List.not_mem_nil, or_false] at h
  rcases h with rfl | rfl | rfl | rfl | rfl | rfl | rfl | rfl | rfl | rfl
  · exact ⟨2, [(1, 1)], KW.shape_of _ _ _ (by decide +kernel)⟩
  · exact ⟨2, [(2, 1), (1, 1)], KW.shape_of _ _ _ (by decide +kernel)⟩
  · exact ⟨2, [(2, 2)], KW.shape_of _ _ _ (by decide +kernel)⟩
  · exact ⟨3, [(2, 1)], KW.shape_of _ _ _ (by decide +kernel)⟩
  · exact ⟨2, [(3, 1), (1, 1)], KW.shape_of _ _ _ (by decide +kernel)⟩
  · exact ⟨2, [(1, 1), (2, 1), (1, 1)], KW.shape_of _ _ _ (by decide +kernel)⟩
  · exact ⟨4, [(1, 1)], KW.shape_of _ _ _ (by decide +kernel)⟩
  · exact ⟨3, [(3, 2), (1, 1), (2, 2)], KW.shape_of _ _ _ (by decide +kernel)⟩
  · exact ⟨2, [(3, 3), (2, 1), (3, 2)], KW.shape_of _ _ _ (by decide +kernel)⟩
  · exact ⟨4, [(3, 1), (2, 2)], KW.shape_of _ _ _ (by decide +kernel)⟩
theorem read_turn {De : DEnds} {a : Addr} {b : List D} {y0 y2 y3 y4 y5 y6 y7 y8 y9 y10 y11 : Option D} {G : GH} (ga : G a = some (.lst b)) (hb : BagOk b)
    (nx : ∀ (b : List D) (y3 y4 y5 y6 y7 y8 y9 y10 y11 : Option D) G', G' a = some (.lst b) → BagOk b → De.nx [y0, some (.ref a), y2, y3, y4, y5, y6, y7, y8, y9, y10, y11, none] G') :
    la_turn De [y0, some (.ref a), y2, y3, y4, y5, y6, y7, y8, y9, y10, y11, none] G := by
  unfold la_turn
  walk_at "rd"
  refine ⟨rfl, ?_⟩
  refine ⟨a, b, shapes, rfl, ga, hb, by decide, by decide, shapes_ok, fun zz n sh ts b1 G1 hz so wo hb1 ga1 kp => ?_⟩
  have ok := wo.toSetOk
  have t3 := ok.thi
  refine ⟨n, ts, rfl, ok, fun ph nph => ?_⟩
  have aph : a ≠ ph := by rintro rfl; rw [ga1] at nph; cases nph
  refine wg_tabs (n := n) (ts := ts) ?_
  walk_at "rd"
  intro p np
  have hap : p ≠ a := by rintro rfl; rw [gset_ne aph, ga1] at np; cases np
  have ga2 : gset G1 ph (.lst (tabsD ts)) a = some (.lst b1) := by rw [gset_ne aph]; exact ga1
  generalize gset G1 ph (.lst (tabsD ts)) = G2 at ga2 np ⊢
  rw [← gset_id ga2]
  refine lc_drawR (J := fun d => ∃ b, d = .lst b ∧ BagOk b) (R := DrawC n) (fun _ _ => trivial) (tabsD ts) (fun d hd b acc kk hJ hk => ?_) (fun acc b3 hJ hE => ?_) _ [] [] b1 rfl .nil ⟨_, rfl, hb1⟩
  · obtain ⟨b0, e, hb0⟩ := hJ
    cases e
    obtain ⟨t, ht, rfl⟩ := tabs_mem hd
    walk_at "rd"
    refine ⟨a, b, n, ts, t, 6, rfl, by decide, gset_two hap, hb0, ok, ht, fun rows b' hr hro hb' => ?_⟩
    rw [gset_swap hap]
    have := hk (contD rows) b' (fun u hu => ⟨rows, rfl, hr, by rw [← tabD_inj hu]; exact hro⟩) ⟨_, rfl, hb'⟩
    first | exact this | exact ⟨gset_same, this⟩ | exact ⟨gset_same, by rw [gset_gset]; exact this⟩
  · obtain ⟨b0, e, hb0⟩ := hJ
    cases e
    obtain ⟨cs, rfl, db⟩ := db_of hE
    rw [gdel_gset (by rw [gset_ne hap]; exact np)]
    refine KS.tup_lst (by rw [List.length_map, db.len, sizeLine_eq]; omega) ?_
    rw [show D.tup (cs.map contD) = dbD cs from rfl]
    refine wForL_ix (I := fun i env G' => ∃ (b : List D) (y6 y7 y8 y9 y10 y11 : Option D), env = [y0, some (.ref a), y2, some (worldD n ts), some (schemaD n ts), some (dbD cs), y6, y7, y8, y9, y10, y11, none] ∧ G' a = some (.lst b) ∧ BagOk b) ?_ ?_ _ _ ⟨b3, _, _, _, _, _, _, rfl, gset_same, hb0⟩
    · rintro env G3 ⟨b, y6, y7, y8, y9, y10, y11, rfl, ga3, hb3⟩
      exact ⟨trivial, nx b _ _ _ _ _ _ _ _ _ G3 ga3 hb3⟩
    · rintro i d env G3 nx3 hd ⟨b, y6, y7, y8, y9, y10, y11, rfl, ga3, hb3⟩ hnx
      refine ⟨trivial, ?_⟩
      exact read_step ok db ga3 hb3 fun b y7 y8 y9 y10 y11 G4 ga4 hb4 => hnx _ _ ⟨b, _, _, _, _, _, _, rfl, ga4, hb4⟩
def sp_law : DSp := spLaw
theorem read_law (ds : List D) (G : GH) (Q : DK) (Ex : DX) (h : sp_law ds G Q Ex) : t_law (endsOf Q Ex) (startD ["_law_script", "_law_bag_here", "_law_turn", "_law_world_here", "_law_schema_here", "_law_database", "_law_step", "_law_statement", "_law_shown", "_law_due", "_law_again", "_law_found_here", "_law_table_here"] ds) G := by
  obtain ⟨ns, rfl, hn, gn, k⟩ := h
  rw [t_law_eq]
  walk_at "rd"
  refine ⟨ns, rfl, hn, fun a b na hb => ?_⟩
  refine wForL_ix (I := fun i env G' => ∃ (b : List D) (y2 y3 y4 y5 y6 y7 y8 y9 y10 y11 : Option D), env = [some (scriptD ns), some (.ref a), y2, y3, y4, y5, y6, y7, y8, y9, y10, y11, none] ∧ G' a = some (.lst b) ∧ BagOk b) ?_ ?_ _ _ ⟨b, _, _, _, _, _, _, _, _, _, _, rfl, gset_same, hb⟩
  · rintro env G2 ⟨b, y2, y3, y4, y5, y6, y7, y8, y9, y10, y11, rfl, ga2, hb2⟩
    refine ⟨trivial, ?_⟩
    walk_at "rd"
    exact k G2
  · rintro i d env G2 nx hd ⟨b, y2, y3, y4, y5, y6, y7, y8, y9, y10, y11, rfl, ga2, hb2⟩ hnx
    refine ⟨trivial, ?_⟩
    exact read_turn ga2 hb2 fun b y3 y4 y5 y6 y7 y8 y9 y10 y11 G3 ga3 hb3 => hnx _ _ ⟨b, _, _, _, _, _, _, _, _, _, _, rfl, ga3, hb3⟩
section
variable {ds : List D} {G : GH} {Q : DK} {Ex : DX}
theorem len_is_integer (h : KS.sp_is_integer ds G Q Ex) : ds.length = 1 := KL.len_is_integer h
theorem len_is_name (h : KS.sp_is_name ds G Q Ex) : ds.length = 1 := KL.len_is_name h
theorem len_check_different (h : sp_check_different ds G Q Ex) : ds.length = 1 := by obtain ⟨_, rfl, _⟩ := h; rfl
theorem len_describes_table (h : sp_describes_table ds G Q Ex) : ds.length = 1 := by obtain ⟨_, _, rfl, _⟩ := h; rfl
theorem len_check_tables (h : sp_check_tables ds G Q Ex) : ds.length = 1 := by obtain ⟨_, _, _, rfl, _⟩ := h; rfl
theorem len_power (h : sp_power ds G Q Ex) : ds.length = 2 := by obtain ⟨_, _, rfl, _⟩ := h; rfl
theorem len_count_databases (h : sp_count_databases ds G Q Ex) : ds.length = 2 := by obtain ⟨_, _, _, rfl, _⟩ := h; rfl
theorem len_Schema___init__ (h : sp_Schema___init__ ds G Q Ex) : ds.length = 3 := by obtain ⟨_, _, _, _, rfl, _⟩ := h; rfl
theorem len_Schema_columns (h : sp_Schema_columns ds G Q Ex) : ds.length = 2 := by obtain ⟨_, _, _, rfl, _⟩ := h; rfl
theorem len_matches (h : sp_matches ds G Q Ex) : ds.length = 3 := by obtain ⟨_, _, _, _, rfl, _⟩ := h; rfl
theorem len_put (h : sp_put ds G Q Ex) : ds.length = 3 := by obtain ⟨_, _, _, _, rfl, _⟩ := h; rfl
theorem len_hits (h : sp_hits ds G Q Ex) : ds.length = 3 := by obtain ⟨_, _, _, _, rfl, _⟩ := h; rfl
theorem len_law_bag (h : KS.sp_law_bag ds G Q Ex) : ds.length = 1 := KL.len_law_bag h
theorem len_law_take (h : KS.sp_law_take ds G Q Ex) : ds.length = 2 := KL.len_law_take h
theorem len_law_alike (h : sp_law_alike ds G Q Ex) : ds.length = 2 := by obtain ⟨_, _, rfl, _⟩ := h; rfl
theorem len_law_one (h : sp_law_one ds G Q Ex) : ds.length = 2 := by obtain ⟨_, _, _, rfl, _⟩ := h; rfl
theorem len_law_world (h : sp_law_world ds G Q Ex) : ds.length = 2 := KW.len_law_world h
theorem len_law_row (h : sp_law_row ds G Q Ex) : ds.length = 3 := by obtain ⟨_, _, _, _, _, rfl, _⟩ := h; rfl
theorem len_law_content (h : sp_law_content ds G Q Ex) : ds.length = 4 := by obtain ⟨_, _, _, _, _, _, rfl, _⟩ := h; rfl
theorem len_law_drawn_term (h : sp_law_drawn_term ds G Q Ex) : ds.length = 3 := by obtain ⟨_, _, _, _, rfl, _⟩ := h; rfl
theorem len_law_pairs (h : sp_law_pairs ds G Q Ex) : ds.length = 4 := by obtain ⟨_, _, _, _, _, rfl, _⟩ := h; rfl
theorem len_law_written (h : sp_law_written ds G Q Ex) : ds.length = 3 := by obtain ⟨_, _, _, _, rfl, _⟩ := h; rfl
theorem len_law_schema (h : sp_law_schema ds G Q Ex) : ds.length = 1 := by obtain ⟨_, _, rfl, _⟩ := h; rfl
theorem len_law_shapes (h : sp_law_shapes ds G Q Ex) : ds.length = 0 := by obtain ⟨rfl, _⟩ := h; rfl
theorem len_law_table (h : sp_law_table ds G Q Ex) : ds.length = 2 := by obtain ⟨_, _, _, rfl, _⟩ := h; rfl
theorem len_law_found (h : sp_law_found ds G Q Ex) : ds.length = 4 := by obtain ⟨_, _, _, _, _, rfl, _⟩ := h; rfl
theorem len_law_hits (h : sp_law_hits ds G Q Ex) : ds.length = 3 := by obtain ⟨_, _, _, _, rfl, _⟩ := h; rfl
theorem len_law (h : sp_law ds G Q Ex) : ds.length = 1 := by obtain ⟨_, rfl, _⟩ := h; rfl
end
theorem read_law_world (ds : List D) (G : GH) (Q : DK) (Ex : DX) (h : sp_law_world ds G Q Ex) : t_law_world (KL.endsOf Q Ex) (startD ["_law_bag_here", "_law_shapes_here", "_law_parts", "_law_names", "_law_tables", "_law_part", "_law_columns", "_law_some", "_law_k"] ds) G := KW.read_law_world2 ds G Q Ex h
theorem read_law_shapes (ds : List D) (G : GH) (Q : DK) (Ex : DX) (h : sp_law_shapes ds G Q Ex) : t_law_shapes (KL.endsOf Q Ex) (startD ["_law_found_here"] ds) G := by
  obtain ⟨rfl, q⟩ := h
  unfold t_law_shapes KS.t_law_shapes
  walk_at "rd"
  exact ⟨by rw [sizeLine_eq]; decide, by rw [sizeLine_eq]; decide, by rw [sizeLine_eq]; decide, q⟩
end K19
set_option Elab.async false
set_option linter.all false
set_option maxRecDepth 100000
set_option maxHeartbeats 4000000

namespace K19
open PySem PySem.Spec PyProof.Rows L2 DL KS KR
def d_is_integer : He.DefD := ⟨("is_integer", none), "is_integer", "is_integer", defArgs s_is_integer, defBody s_is_integer, defScope s_is_integer, [], []⟩
def d_is_name : He.DefD := ⟨("is_name", none), "is_name", "is_name", defArgs s_is_name, defBody s_is_name, defScope s_is_name, [], []⟩
def d_check_different : He.DefD := ⟨("check_different", none), "check_different", "check_different", defArgs s_check_different, defBody s_check_different, defScope s_check_different, [], []⟩
def d_describes_table : He.DefD := ⟨("describes_table", none), "describes_table", "describes_table", defArgs s_describes_table, defBody s_describes_table, defScope s_describes_table, [], []⟩
def d_check_tables : He.DefD := ⟨("check_tables", none), "check_tables", "check_tables", defArgs s_check_tables, defBody s_check_tables, defScope s_check_tables, [], []⟩
def d_power : He.DefD := ⟨("power", none), "power", "power", defArgs s_power, defBody s_power, defScope s_power, [], []⟩
def d_count_databases : He.DefD := ⟨("count_databases", none), "count_databases", "count_databases", defArgs s_count_databases, defBody s_count_databases, defScope s_count_databases, [], []⟩
def d_Schema___init__ : He.DefD := ⟨("Schema", some "__init__"), "__init__", "Schema.__init__", defArgs s_Schema___init__, defBody s_Schema___init__, defScope s_Schema___init__, [], []⟩
def d_Schema_columns : He.DefD := ⟨("Schema", some "columns"), "columns", "Schema.columns", defArgs s_Schema_columns, defBody s_Schema_columns, defScope s_Schema_columns, [], []⟩
def d_matches : He.DefD := ⟨("matches", none), "matches", "matches", defArgs s_matches, defBody s_matches, defScope s_matches, [], []⟩
def d_put : He.DefD := ⟨("put", none), "put", "put", defArgs s_put, defBody s_put, defScope s_put, [], []⟩
def d_hits : He.DefD := ⟨("hits", none), "hits", "hits", defArgs s_hits, defBody s_hits, defScope s_hits, [], []⟩
def d_law_bag : He.DefD := ⟨("_law_bag", none), "_law_bag", "_law_bag", defArgs s_law_bag, defBody s_law_bag, defScope s_law_bag, [], []⟩
def d_law_take : He.DefD := ⟨("_law_take", none), "_law_take", "_law_take", defArgs s_law_take, defBody s_law_take, defScope s_law_take, [], []⟩
def d_law_alike : He.DefD := ⟨("_law_alike", none), "_law_alike", "_law_alike", defArgs s_law_alike, defBody s_law_alike, defScope s_law_alike, [], []⟩
def d_law_one : He.DefD := ⟨("_law_one", none), "_law_one", "_law_one", defArgs s_law_one, defBody s_law_one, defScope s_law_one, [], []⟩
def d_law_world : He.DefD := ⟨("_law_world", none), "_law_world", "_law_world", defArgs s_law_world, defBody s_law_world, defScope s_law_world, [], []⟩
def d_law_row : He.DefD := ⟨("_law_row", none), "_law_row", "_law_row", defArgs s_law_row, defBody s_law_row, defScope s_law_row, [], []⟩
def d_law_content : He.DefD := ⟨("_law_content", none), "_law_content", "_law_content", defArgs s_law_content, defBody s_law_content, defScope s_law_content, [], []⟩
def d_law_drawn_term : He.DefD := ⟨("_law_drawn_term", none), "_law_drawn_term", "_law_drawn_term", defArgs s_law_drawn_term, defBody s_law_drawn_term, defScope s_law_drawn_term, [], []⟩
def d_law_pairs : He.DefD := ⟨("_law_pairs", none), "_law_pairs", "_law_pairs", defArgs s_law_pairs, defBody s_law_pairs, defScope s_law_pairs, [], []⟩
def d_law_written : He.DefD := ⟨("_law_written", none), "_law_written", "_law_written", defArgs s_law_written, defBody s_law_written, defScope s_law_written, [], []⟩
def d_law_schema : He.DefD := ⟨("_law_schema", none), "_law_schema", "_law_schema", defArgs s_law_schema, defBody s_law_schema, defScope s_law_schema, [], []⟩
def d_law_shapes : He.DefD := ⟨("_law_shapes", none), "_law_shapes", "_law_shapes", defArgs s_law_shapes, defBody s_law_shapes, defScope s_law_shapes, [], []⟩
def d_law_table : He.DefD := ⟨("_law_table", none), "_law_table", "_law_table", defArgs s_law_table, defBody s_law_table, defScope s_law_table, [], []⟩
def d_law_found : He.DefD := ⟨("_law_found", none), "_law_found", "_law_found", defArgs s_law_found, defBody s_law_found, defScope s_law_found, [], []⟩
def d_law_hits : He.DefD := ⟨("_law_hits", none), "_law_hits", "_law_hits", defArgs s_law_hits, defBody s_law_hits, defScope s_law_hits, [], []⟩
def d_law : He.DefD := ⟨("law", none), "law", "law", defArgs s_law, defBody s_law, defScope s_law, [], []⟩
def fn : List He.DefD := [d_is_integer, d_is_name, d_check_different, d_describes_table, d_check_tables, d_power, d_count_databases, d_Schema___init__, d_Schema_columns, d_matches, d_put, d_hits, d_law_bag, d_law_take, d_law_alike, d_law_one, d_law_world, d_law_row, d_law_content, d_law_drawn_term, d_law_pairs, d_law_written, d_law_schema, d_law_shapes, d_law_table, d_law_found, d_law_hits, d_law]
def fa : List He.Fa := [.glo "is_integer", .glo "is_name", .glo "check_different", .glo "describes_table", .glo "check_tables", .glo "power", .glo "count_databases", .glo "matches", .glo "put", .glo "hits", .glo "_law_bag", .glo "_law_take", .glo "_law_alike", .glo "_law_one", .glo "_law_world", .glo "_law_row", .glo "_law_content", .glo "_law_drawn_term", .glo "_law_pairs", .glo "_law_written", .glo "_law_schema", .glo "_law_shapes", .glo "_law_table", .glo "_law_found", .glo "_law_hits", .glo "law", .glo "Schema", .free "abs", .free "all", .free "bool", .free "dict", .free "enumerate", .free "int", .free "isinstance", .free "len", .free "list", .free "range", .free "repr", .free "set", .free "sorted", .free "str", .free "tuple", .free "zip", .str "LETTERS" "abcdefghijklmnopqrstuvwxyz", .cls "Schema", .noat "Schema" "size", .noat "Schema" "tables", .noat "Schema" "names", .noat "Schema" "_columns", .noat "Schema" "_key_counts", .noat "Schema" "empty", .noat "Schema" "many", .meth "Schema" "columns", .mkr "Schema"]
abbrev R : PySem.W.OpenRow := PySem.W.OpenLaw.row PySem.Challenge.rw_firingrules_k19_hits
def fb (K : PySem.W.Frag) : Bool := kitTest (["Schema"] : List PySem.Str) sub K && (decide (PySem.W.findIn K (.ref (He.ga K "Schema")) "__ne__" = some (some (.builtin "object.__ne__"))) && decide (PySem.W.mroIn K (He.ga K "Schema") (.type "object") = some true))
abbrev hk : PySem.W.Hook := hookX 6 fa fn fb
def ob (s : PySem.W.SharedT) : AlX := obsXG 6 fa fn fb (HandSHeadRun.getT s)
theorem ob_eq (s : PySem.W.SharedT) : ob s = hk.obs s.abs := obsXG_eq (HandSHeadRun.getT_eq s)
theorem run (w : World) : HandSHeadRun.RunEq R (PySem.W.view R.prog [41]) hk ob 4000 ("LETTERS" :: "RuleError" :: "Wrong" :: "Twice" :: "BadTable" :: "TooMany" :: "Schema" :: "_wall" :: "is_integer" :: "is_name" :: "check_different" :: "matches" :: "put" :: "hits" :: "describes_table" :: "check_tables" :: "all_tuples" :: "power" :: "count_databases" :: "rank" :: "_law_bag" :: "_law_take" :: "_law_alike" :: "_law_one" :: "_law_world" :: "_law_row" :: "_law_content" :: "_law_drawn_term" :: "_law_pairs" :: "_law_written" :: "_law_schema" :: "_law_shapes" :: "_law_table" :: "_law_found" :: "_law_hits" :: ([] : List PySem.Str)) w := by
  intro os
  kernel_rfl
theorem facts {P : Program} {w : World} {T : Tb} {h : Heap} {mg : Str → Option Value} {f : Addr} (X : T.K.In h) (G : h.Ns mainGlobals mg) (hfa : mg ("law" : Str) = some (.ref f)) (c : He.SaysD fa fn T.K) (hfb : fb T.K = true) (hT : T.cls = fun c => He.ga T.K ((["Schema"] : List PySem.Str).getD c "")) (hL : T.flds = flds) :
    ∃ fd : FuncData, (∀ (s : Shared) (v : Value), BindsTo s fd ⟨[v], []⟩ [("_law_script", v)]) ∧ ∀ base : Heap, T.K.In base → base.Ns mainGlobals mg → FnG P w T.K mg base (L2.CX P w) 7 f fd ["_law_script"] (liftSp T spLaw) := by
  obtain ⟨fd_is_integer, F_is_integer⟩ := c.def_ 0 (d := d_is_integer) rfl
  obtain ⟨fd_is_name, F_is_name⟩ := c.def_ 1 (d := d_is_name) rfl
  obtain ⟨fd_check_different, F_check_different⟩ := c.def_ 2 (d := d_check_different) rfl
  obtain ⟨fd_describes_table, F_describes_table⟩ := c.def_ 3 (d := d_describes_table) rfl
  obtain ⟨fd_check_tables, F_check_tables⟩ := c.def_ 4 (d := d_check_tables) rfl
  obtain ⟨fd_power, F_power⟩ := c.def_ 5 (d := d_power) rfl
  obtain ⟨fd_count_databases, F_count_databases⟩ := c.def_ 6 (d := d_count_databases) rfl
  obtain ⟨fd_Schema___init__, F_Schema___init__⟩ := c.def_ 7 (d := d_Schema___init__) rfl
  obtain ⟨fd_Schema_columns, F_Schema_columns⟩ := c.def_ 8 (d := d_Schema_columns) rfl
  obtain ⟨fd_matches, F_matches⟩ := c.def_ 9 (d := d_matches) rfl
  obtain ⟨fd_put, F_put⟩ := c.def_ 10 (d := d_put) rfl
  obtain ⟨fd_hits, F_hits⟩ := c.def_ 11 (d := d_hits) rfl
  obtain ⟨fd_law_bag, F_law_bag⟩ := c.def_ 12 (d := d_law_bag) rfl
  obtain ⟨fd_law_take, F_law_take⟩ := c.def_ 13 (d := d_law_take) rfl
  obtain ⟨fd_law_alike, F_law_alike⟩ := c.def_ 14 (d := d_law_alike) rfl
  obtain ⟨fd_law_one, F_law_one⟩ := c.def_ 15 (d := d_law_one) rfl
  obtain ⟨fd_law_world, F_law_world⟩ := c.def_ 16 (d := d_law_world) rfl
  obtain ⟨fd_law_row, F_law_row⟩ := c.def_ 17 (d := d_law_row) rfl
  obtain ⟨fd_law_content, F_law_content⟩ := c.def_ 18 (d := d_law_content) rfl
  obtain ⟨fd_law_drawn_term, F_law_drawn_term⟩ := c.def_ 19 (d := d_law_drawn_term) rfl
  obtain ⟨fd_law_pairs, F_law_pairs⟩ := c.def_ 20 (d := d_law_pairs) rfl
  obtain ⟨fd_law_written, F_law_written⟩ := c.def_ 21 (d := d_law_written) rfl
  obtain ⟨fd_law_schema, F_law_schema⟩ := c.def_ 22 (d := d_law_schema) rfl
  obtain ⟨fd_law_shapes, F_law_shapes⟩ := c.def_ 23 (d := d_law_shapes) rfl
  obtain ⟨fd_law_table, F_law_table⟩ := c.def_ 24 (d := d_law_table) rfl
  obtain ⟨fd_law_found, F_law_found⟩ := c.def_ 25 (d := d_law_found) rfl
  obtain ⟨fd_law_hits, F_law_hits⟩ := c.def_ 26 (d := d_law_hits) rfl
  obtain ⟨fd_law, F_law⟩ := c.def_ 27 (d := d_law) rfl
  have e := hfa.symm.trans (He.glo_ok X G (c.fact 25 (f := .glo "law") rfl))
  cases e
  have m : Bl mg := ⟨He.free_ok X G (c.fact 27 (f := .free "abs") rfl), He.free_ok X G (c.fact 28 (f := .free "all") rfl), He.free_ok X G (c.fact 29 (f := .free "bool") rfl), He.free_ok X G (c.fact 30 (f := .free "dict") rfl), He.free_ok X G (c.fact 31 (f := .free "enumerate") rfl), He.free_ok X G (c.fact 32 (f := .free "int") rfl), He.free_ok X G (c.fact 33 (f := .free "isinstance") rfl), He.free_ok X G (c.fact 34 (f := .free "len") rfl), He.free_ok X G (c.fact 35 (f := .free "list") rfl), He.free_ok X G (c.fact 36 (f := .free "range") rfl), He.free_ok X G (c.fact 37 (f := .free "repr") rfl), He.free_ok X G (c.fact 38 (f := .free "set") rfl), He.free_ok X G (c.fact 39 (f := .free "sorted") rfl), He.free_ok X G (c.fact 40 (f := .free "str") rfl), He.free_ok X G (c.fact 41 (f := .free "tuple") rfl), He.free_ok X G (c.fact 42 (f := .free "zip") rfl), He.str_ok X G (c.fact 43 (f := .str "LETTERS" "abcdefghijklmnopqrstuvwxyz") rfl)⟩
  have at_Schema : T.cls 0 = He.ga T.K "Schema" := by rw [hT]; rfl
  have hC : ∀ c, c < nC → ClOk T c := fun kk hk => by
    match kk, hk with
    | 0, _ =>
      refine ⟨by rw [at_Schema]; exact He.cls_ok (c.fact 44 (f := .cls "Schema") rfl), ?_, by rw [hL]; decide, by rw [hL]; decide⟩
      rw [hL, at_Schema]
      intro f hf
      simp only [flds, List.mem_cons, List.not_mem_nil, or_false] at hf
      rcases hf with rfl | rfl | rfl | rfl | rfl | rfl | rfl
      · exact He.noat_ok (c.fact 45 (f := .noat "Schema" "size") rfl)
      · exact He.noat_ok (c.fact 46 (f := .noat "Schema" "tables") rfl)
      · exact He.noat_ok (c.fact 47 (f := .noat "Schema" "names") rfl)
      · exact He.noat_ok (c.fact 48 (f := .noat "Schema" "_columns") rfl)
      · exact He.noat_ok (c.fact 49 (f := .noat "Schema" "_key_counts") rfl)
      · exact He.noat_ok (c.fact 50 (f := .noat "Schema" "empty") rfl)
      · exact He.noat_ok (c.fact 51 (f := .noat "Schema" "many") rfl)
    | n + 1, h => exact absurd h (by show ¬ n + 1 < 1; omega)
  have hkt : kitTest (["Schema"] : List PySem.Str) sub T.K = true := by have q := hfb; unfold fb at q; simp only [Bool.and_eq_true] at q; exact q.1
  have kit : KitOk T nC sub := kit_test (ns := (["Schema"] : List PySem.Str)) hT (fun c hc => (hC c hc).cl) hkt
  have N_Schema : NeOk T 0 := by have q := hfb; unfold fb at q; simp only [Bool.and_eq_true, decide_eq_true_eq] at q; exact ⟨by rw [at_Schema]; exact q.2.1, by rw [at_Schema]; exact q.2.2⟩
  have g_Schema : mg ("Schema" : Str) = some (.ref (T.cls 0)) := by rw [at_Schema]; exact He.glo_ok X G (c.fact 26 (f := .glo "Schema") rfl)
  have b := FunD.bindsA (ps := ["_law_script"]) F_law fun _ _ _ _ _ _ us hl => match us, hl with | [_], _ => rfl
  refine ⟨fd_law, fun s v => b s [v] rfl, fun base _ _ => ?_⟩
  have G_is_integer : FnG P w T.K mg base (L2.CX P w) 1 _ fd_is_integer ["thing"] (liftSp T sp_is_integer) := okF F_is_integer sc_is_integer (fun ds G Q Ex h => KL.len_is_integer h) (fun cdv A outer s H E hr => body_is_integer m hC hL kit g_Schema  cdv A outer s H E hr) KL.read_is_integer
  have c_is_integer : Cal T P w mg base "is_integer" 1 1 sp_is_integer := cal_of F_is_integer G_is_integer (He.glo_ok X G (c.fact 0 (f := .glo "is_integer") rfl)) (F_is_integer.bindsN fun _ _ _ _ _ _ us hl => match us, hl with | [_], _ => rfl)
  have G_is_name : FnG P w T.K mg base (L2.CX P w) 1 _ fd_is_name ["thing"] (liftSp T sp_is_name) := okF F_is_name sc_is_name (fun ds G Q Ex h => KL.len_is_name h) (fun cdv A outer s H E hr => body_is_name m hC hL kit g_Schema  cdv A outer s H E hr) KL.read_is_name
  have c_is_name : Cal T P w mg base "is_name" 1 1 sp_is_name := cal_of F_is_name G_is_name (He.glo_ok X G (c.fact 1 (f := .glo "is_name") rfl)) (F_is_name.bindsN fun _ _ _ _ _ _ us hl => match us, hl with | [_], _ => rfl)
  have G_check_different : FnG P w T.K mg base (L2.CX P w) 1 _ fd_check_different ["names"] (liftSp T sp_check_different) := okF F_check_different sc_check_different (fun ds G Q Ex h => len_check_different h) (fun cdv A outer s H E hr => body_check_different m hC hL kit g_Schema  cdv A outer s H E hr) read_check_different
  have c_check_different : Cal T P w mg base "check_different" 1 1 sp_check_different := cal_of F_check_different G_check_different (He.glo_ok X G (c.fact 2 (f := .glo "check_different") rfl)) (F_check_different.bindsN fun _ _ _ _ _ _ us hl => match us, hl with | [_], _ => rfl)
  have G_describes_table : FnG P w T.K mg base (L2.CX P w) 2 _ fd_describes_table ["thing"] (liftSp T sp_describes_table) := okF F_describes_table sc_describes_table (fun ds G Q Ex h => len_describes_table h) (fun cdv A outer s H E hr => body_describes_table m hC hL kit g_Schema c_is_integer c_is_name cdv A outer s H E hr) read_describes_table
  have c_describes_table : Cal T P w mg base "describes_table" 2 1 sp_describes_table := cal_of F_describes_table G_describes_table (He.glo_ok X G (c.fact 3 (f := .glo "describes_table") rfl)) (F_describes_table.bindsN fun _ _ _ _ _ _ us hl => match us, hl with | [_], _ => rfl)
  have G_check_tables : FnG P w T.K mg base (L2.CX P w) 3 _ fd_check_tables ["tables"] (liftSp T sp_check_tables) := okF F_check_tables sc_check_tables (fun ds G Q Ex h => len_check_tables h) (fun cdv A outer s H E hr => body_check_tables m hC hL kit g_Schema c_check_different c_describes_table cdv A outer s H E hr) read_check_tables
  have c_check_tables : Cal T P w mg base "check_tables" 3 1 sp_check_tables := cal_of F_check_tables G_check_tables (He.glo_ok X G (c.fact 4 (f := .glo "check_tables") rfl)) (F_check_tables.bindsN fun _ _ _ _ _ _ us hl => match us, hl with | [_], _ => rfl)
  have G_power : FnG P w T.K mg base (L2.CX P w) 1 _ fd_power ["base", "times"] (liftSp T sp_power) := okF F_power sc_power (fun ds G Q Ex h => len_power h) (fun cdv A outer s H E hr => body_power m hC hL kit g_Schema  cdv A outer s H E hr) read_power
  have c_power : Cal T P w mg base "power" 1 2 sp_power := cal_of F_power G_power (He.glo_ok X G (c.fact 5 (f := .glo "power") rfl)) (F_power.bindsN fun _ _ _ _ _ _ us hl => match us, hl with | [_, _], _ => rfl)
  have G_count_databases : FnG P w T.K mg base (L2.CX P w) 2 _ fd_count_databases ["size", "tables"] (liftSp T sp_count_databases) := okF F_count_databases sc_count_databases (fun ds G Q Ex h => len_count_databases h) (fun cdv A outer s H E hr => body_count_databases m hC hL kit g_Schema c_power cdv A outer s H E hr) read_count_databases
  have c_count_databases : Cal T P w mg base "count_databases" 2 2 sp_count_databases := cal_of F_count_databases G_count_databases (He.glo_ok X G (c.fact 6 (f := .glo "count_databases") rfl)) (F_count_databases.bindsN fun _ _ _ _ _ _ us hl => match us, hl with | [_, _], _ => rfl)
  have G_Schema___init__ : FnG P w T.K mg base (L2.CX P w) 4 _ fd_Schema___init__ ["self", "size", "tables"] (liftSp T sp_Schema___init__) := okF F_Schema___init__ sc_Schema___init__ (fun ds G Q Ex h => len_Schema___init__ h) (fun cdv A outer s H E hr => body_Schema___init__ m hC hL kit g_Schema c_check_tables c_count_databases c_is_integer cdv A outer s H E hr) read_Schema___init__
  have c_Schema___init__ : CalC T P w mg base "Schema" 0 4 sp_Schema___init__ := ⟨_, _, _, G_Schema___init__, by rw [at_Schema]; exact He.mkr_ok (c.fact 53 (f := .mkr "Schema") rfl), g_Schema, (F_Schema___init__.bindsN fun _ _ _ _ _ _ us hl => match us, hl with | [_, _, _], _ => rfl)⟩
  have G_Schema_columns : FnG P w T.K mg base (L2.CX P w) 1 _ fd_Schema_columns ["self", "name"] (liftSp T sp_Schema_columns) := okF F_Schema_columns sc_Schema_columns (fun ds G Q Ex h => len_Schema_columns h) (fun cdv A outer s H E hr => body_Schema_columns m hC hL kit g_Schema  cdv A outer s H E hr) read_Schema_columns
  have c_Schema_columns : CalM T P w mg base 0 "columns" 1 sp_Schema_columns := ⟨_, _, _, G_Schema_columns, by rw [at_Schema]; exact He.meth_ok (c.fact 52 (f := .meth "Schema" "columns") rfl), (F_Schema_columns.bindsN fun _ _ _ _ _ _ us hl => match us, hl with | [_, _], _ => rfl)⟩
  have G_matches : FnG P w T.K mg base (L2.CX P w) 1 _ fd_matches ["columns", "row", "where"] (liftSp T sp_matches) := okF F_matches sc_matches (fun ds G Q Ex h => len_matches h) (fun cdv A outer s H E hr => body_matches m hC hL kit g_Schema  cdv A outer s H E hr) read_matches
  have c_matches : Cal T P w mg base "matches" 1 3 sp_matches := cal_of F_matches G_matches (He.glo_ok X G (c.fact 7 (f := .glo "matches") rfl)) (F_matches.bindsN fun _ _ _ _ _ _ us hl => match us, hl with | [_, _, _], _ => rfl)
  have G_put : FnG P w T.K mg base (L2.CX P w) 1 _ fd_put ["columns", "row", "sets"] (liftSp T sp_put) := okF F_put sc_put (fun ds G Q Ex h => len_put h) (fun cdv A outer s H E hr => body_put m hC hL kit g_Schema  cdv A outer s H E hr) read_put
  have c_put : Cal T P w mg base "put" 1 3 sp_put := cal_of F_put G_put (He.glo_ok X G (c.fact 8 (f := .glo "put") rfl)) (F_put.bindsN fun _ _ _ _ _ _ us hl => match us, hl with | [_, _, _], _ => rfl)
  have G_hits : FnG P w T.K mg base (L2.CX P w) 2 _ fd_hits ["schema", "statement", "database"] (liftSp T sp_hits) := okF F_hits sc_hits (fun ds G Q Ex h => len_hits h) (fun cdv A outer s H E hr => body_hits m hC hL kit g_Schema c_Schema_columns c_matches c_put cdv A outer s H E hr) read_hits
  have c_hits : Cal T P w mg base "hits" 2 3 sp_hits := cal_of F_hits G_hits (He.glo_ok X G (c.fact 9 (f := .glo "hits") rfl)) (F_hits.bindsN fun _ _ _ _ _ _ us hl => match us, hl with | [_, _, _], _ => rfl)
  have G_law_bag : FnG P w T.K mg base (L2.CX P w) 1 _ fd_law_bag ["_law_script"] (liftSp T sp_law_bag) := okF F_law_bag sc_law_bag (fun ds G Q Ex h => KL.len_law_bag h) (fun cdv A outer s H E hr => body_law_bag m hC hL kit g_Schema  cdv A outer s H E hr) KL.read_law_bag
  have c__law_bag : Cal T P w mg base "_law_bag" 1 1 sp_law_bag := cal_of F_law_bag G_law_bag (He.glo_ok X G (c.fact 10 (f := .glo "_law_bag") rfl)) (F_law_bag.bindsN fun _ _ _ _ _ _ us hl => match us, hl with | [_], _ => rfl)
  have G_law_take : FnG P w T.K mg base (L2.CX P w) 1 _ fd_law_take ["_law_bag_here", "_law_many"] (liftSp T sp_law_take) := okF F_law_take sc_law_take (fun ds G Q Ex h => KL.len_law_take h) (fun cdv A outer s H E hr => body_law_take m hC hL kit g_Schema  cdv A outer s H E hr) KL.read_law_take
  have c__law_take : Cal T P w mg base "_law_take" 1 2 sp_law_take := cal_of F_law_take G_law_take (He.glo_ok X G (c.fact 11 (f := .glo "_law_take") rfl)) (F_law_take.bindsN fun _ _ _ _ _ _ us hl => match us, hl with | [_, _], _ => rfl)
  have G_law_alike : FnG P w T.K mg base (L2.CX P w) 1 _ fd_law_alike ["_law_found_here", "_law_due"] (liftSp T sp_law_alike) := okF F_law_alike sc_law_alike (fun ds G Q Ex h => len_law_alike h) (fun cdv A outer s H E hr => body_law_alike m hC hL kit g_Schema  cdv A outer s H E hr) read_law_alike
  have c__law_alike : Cal T P w mg base "_law_alike" 1 2 sp_law_alike := cal_of F_law_alike G_law_alike (He.glo_ok X G (c.fact 12 (f := .glo "_law_alike") rfl)) (F_law_alike.bindsN fun _ _ _ _ _ _ us hl => match us, hl with | [_, _], _ => rfl)
  have G_law_one : FnG P w T.K mg base (L2.CX P w) 2 _ fd_law_one ["_law_bag_here", "_law_things"] (liftSp T sp_law_one) := okF F_law_one sc_law_one (fun ds G Q Ex h => len_law_one h) (fun cdv A outer s H E hr => body_law_one m hC hL kit g_Schema c__law_take cdv A outer s H E hr) read_law_one
  have c__law_one : Cal T P w mg base "_law_one" 2 2 sp_law_one := cal_of F_law_one G_law_one (He.glo_ok X G (c.fact 13 (f := .glo "_law_one") rfl)) (F_law_one.bindsN fun _ _ _ _ _ _ us hl => match us, hl with | [_, _], _ => rfl)
  have G_law_world : FnG P w T.K mg base (L2.CX P w) 3 _ fd_law_world ["_law_bag_here", "_law_shapes_here"] (liftSp T sp_law_world) := okF F_law_world sc_law_world (fun ds G Q Ex h => len_law_world h) (fun cdv A outer s H E hr => body_law_world m hC hL kit g_Schema c__law_one c__law_take cdv A outer s H E hr) read_law_world
  have c__law_world : Cal T P w mg base "_law_world" 3 2 sp_law_world := cal_of F_law_world G_law_world (He.glo_ok X G (c.fact 14 (f := .glo "_law_world") rfl)) (F_law_world.bindsN fun _ _ _ _ _ _ us hl => match us, hl with | [_, _], _ => rfl)
  have G_law_row : FnG P w T.K mg base (L2.CX P w) 2 _ fd_law_row ["_law_bag_here", "_law_world_here", "_law_table_here"] (liftSp T sp_law_row) := okF F_law_row sc_law_row (fun ds G Q Ex h => len_law_row h) (fun cdv A outer s H E hr => body_law_row m hC hL kit g_Schema c__law_take cdv A outer s H E hr) read_law_row
  have c__law_row : Cal T P w mg base "_law_row" 2 3 sp_law_row := cal_of F_law_row G_law_row (He.glo_ok X G (c.fact 15 (f := .glo "_law_row") rfl)) (F_law_row.bindsN fun _ _ _ _ _ _ us hl => match us, hl with | [_, _, _], _ => rfl)
  have G_law_content : FnG P w T.K mg base (L2.CX P w) 3 _ fd_law_content ["_law_bag_here", "_law_world_here", "_law_table_here", "_law_bound"] (liftSp T sp_law_content) := okF F_law_content sc_law_content (fun ds G Q Ex h => len_law_content h) (fun cdv A outer s H E hr => body_law_content m hC hL kit g_Schema c__law_row c__law_take cdv A outer s H E hr) read_law_content
  have c__law_content : Cal T P w mg base "_law_content" 3 4 sp_law_content := cal_of F_law_content G_law_content (He.glo_ok X G (c.fact 16 (f := .glo "_law_content") rfl)) (F_law_content.bindsN fun _ _ _ _ _ _ us hl => match us, hl with | [_, _, _, _], _ => rfl)
  have G_law_drawn_term : FnG P w T.K mg base (L2.CX P w) 3 _ fd_law_drawn_term ["_law_bag_here", "_law_world_here", "_law_terms"] (liftSp T sp_law_drawn_term) := okF F_law_drawn_term sc_law_drawn_term (fun ds G Q Ex h => len_law_drawn_term h) (fun cdv A outer s H E hr => body_law_drawn_term m hC hL kit g_Schema c__law_one c__law_take cdv A outer s H E hr) read_law_drawn_term
  have c__law_drawn_term : Cal T P w mg base "_law_drawn_term" 3 3 sp_law_drawn_term := cal_of F_law_drawn_term G_law_drawn_term (He.glo_ok X G (c.fact 17 (f := .glo "_law_drawn_term") rfl)) (F_law_drawn_term.bindsN fun _ _ _ _ _ _ us hl => match us, hl with | [_, _, _], _ => rfl)
  have G_law_pairs : FnG P w T.K mg base (L2.CX P w) 4 _ fd_law_pairs ["_law_bag_here", "_law_world_here", "_law_columns", "_law_terms"] (liftSp T sp_law_pairs) := okF F_law_pairs sc_law_pairs (fun ds G Q Ex h => len_law_pairs h) (fun cdv A outer s H E hr => body_law_pairs m hC hL kit g_Schema c__law_drawn_term c__law_take cdv A outer s H E hr) read_law_pairs
  have c__law_pairs : Cal T P w mg base "_law_pairs" 4 4 sp_law_pairs := cal_of F_law_pairs G_law_pairs (He.glo_ok X G (c.fact 18 (f := .glo "_law_pairs") rfl)) (F_law_pairs.bindsN fun _ _ _ _ _ _ us hl => match us, hl with | [_, _, _, _], _ => rfl)
  have G_law_written : FnG P w T.K mg base (L2.CX P w) 5 _ fd_law_written ["_law_bag_here", "_law_world_here", "_law_terms"] (liftSp T sp_law_written) := okF F_law_written sc_law_written (fun ds G Q Ex h => len_law_written h) (fun cdv A outer s H E hr => body_law_written m hC hL kit g_Schema c__law_drawn_term c__law_one c__law_pairs c__law_take cdv A outer s H E hr) read_law_written
  have c__law_written : Cal T P w mg base "_law_written" 5 3 sp_law_written := cal_of F_law_written G_law_written (He.glo_ok X G (c.fact 19 (f := .glo "_law_written") rfl)) (F_law_written.bindsN fun _ _ _ _ _ _ us hl => match us, hl with | [_, _, _], _ => rfl)
  have G_law_schema : FnG P w T.K mg base (L2.CX P w) 6 _ fd_law_schema ["_law_world_here"] (liftSp T sp_law_schema) := okF F_law_schema sc_law_schema (fun ds G Q Ex h => len_law_schema h) (fun cdv A outer s H E hr => body_law_schema m hC hL kit g_Schema c_Schema___init__ cdv A outer s H E hr) read_law_schema
  have c__law_schema : Cal T P w mg base "_law_schema" 6 1 sp_law_schema := cal_of F_law_schema G_law_schema (He.glo_ok X G (c.fact 20 (f := .glo "_law_schema") rfl)) (F_law_schema.bindsN fun _ _ _ _ _ _ us hl => match us, hl with | [_], _ => rfl)
  have G_law_shapes : FnG P w T.K mg base (L2.CX P w) 1 _ fd_law_shapes [] (liftSp T sp_law_shapes) := okF F_law_shapes sc_law_shapes (fun ds G Q Ex h => len_law_shapes h) (fun cdv A outer s H E hr => body_law_shapes m hC hL kit g_Schema  cdv A outer s H E hr) read_law_shapes
  have c__law_shapes : Cal T P w mg base "_law_shapes" 1 0 sp_law_shapes := cal_of F_law_shapes G_law_shapes (He.glo_ok X G (c.fact 21 (f := .glo "_law_shapes") rfl)) (F_law_shapes.bindsN fun _ _ _ _ _ _ us hl => match us, hl with | [], _ => rfl)
  have G_law_table : FnG P w T.K mg base (L2.CX P w) 1 _ fd_law_table ["_law_world_here", "_law_table_here"] (liftSp T sp_law_table) := okF F_law_table sc_law_table (fun ds G Q Ex h => len_law_table h) (fun cdv A outer s H E hr => body_law_table m hC hL kit g_Schema  cdv A outer s H E hr) read_law_table
  have c__law_table : Cal T P w mg base "_law_table" 1 2 sp_law_table := cal_of F_law_table G_law_table (He.glo_ok X G (c.fact 22 (f := .glo "_law_table") rfl)) (F_law_table.bindsN fun _ _ _ _ _ _ us hl => match us, hl with | [_, _], _ => rfl)
  have G_law_found : FnG P w T.K mg base (L2.CX P w) 2 _ fd_law_found ["_law_world_here", "_law_table_here", "_law_where", "_law_database"] (liftSp T sp_law_found) := okF F_law_found sc_law_found (fun ds G Q Ex h => len_law_found h) (fun cdv A outer s H E hr => body_law_found m hC hL kit g_Schema c__law_table cdv A outer s H E hr) read_law_found
  have c__law_found : Cal T P w mg base "_law_found" 2 4 sp_law_found := cal_of F_law_found G_law_found (He.glo_ok X G (c.fact 23 (f := .glo "_law_found") rfl)) (F_law_found.bindsN fun _ _ _ _ _ _ us hl => match us, hl with | [_, _, _, _], _ => rfl)
  have G_law_hits : FnG P w T.K mg base (L2.CX P w) 3 _ fd_law_hits ["_law_world_here", "_law_statement", "_law_database"] (liftSp T sp_law_hits) := okF F_law_hits sc_law_hits (fun ds G Q Ex h => len_law_hits h) (fun cdv A outer s H E hr => body_law_hits m hC hL kit g_Schema c__law_found c__law_table cdv A outer s H E hr) read_law_hits
  have c__law_hits : Cal T P w mg base "_law_hits" 3 3 sp_law_hits := cal_of F_law_hits G_law_hits (He.glo_ok X G (c.fact 24 (f := .glo "_law_hits") rfl)) (F_law_hits.bindsN fun _ _ _ _ _ _ us hl => match us, hl with | [_, _, _], _ => rfl)
  have G_law : FnG P w T.K mg base (L2.CX P w) 7 _ fd_law ["_law_script"] (liftSp T sp_law) := okF F_law sc_law (fun ds G Q Ex h => len_law h) (fun cdv A outer s H E hr => body_law m hC hL kit g_Schema c__law_alike c__law_bag c__law_content c__law_hits c__law_schema c__law_shapes c__law_world c__law_written c_hits cdv A outer s H E hr) read_law
  exact G_law
end K19
open PySem PySem.W PySem.Calls PyProof.Rows
set_option maxHeartbeats 0 in
theorem PySem.Challenge.cw_firingrules_k19_hits_holds : PySem.Challenge.rw_firingrules_k19_hits.Holds := by
  w_on; o_law
  refine HandSHeadRun.head_any (r := OpenLaw.row PySem.Challenge.rw_firingrules_k19_hits) (q := view (OpenLaw.row PySem.Challenge.rw_firingrules_k19_hits).prog [41]) (H := K19.hk) (ob := K19.ob) (M := 4000) (loose := ("LETTERS" :: "RuleError" :: "Wrong" :: "Twice" :: "BadTable" :: "TooMany" :: "Schema" :: "_wall" :: "is_integer" :: "is_name" :: "check_different" :: "matches" :: "put" :: "hits" :: "describes_table" :: "check_tables" :: "all_tuples" :: "power" :: "count_databases" :: "rank" :: "_law_bag" :: "_law_take" :: "_law_alike" :: "_law_one" :: "_law_world" :: "_law_row" :: "_law_content" :: "_law_drawn_term" :: "_law_pairs" :: "_law_written" :: "_law_schema" :: "_law_shapes" :: "_law_table" :: "_law_found" :: "_law_hits" :: ([] : List PySem.Str))) (d := HandSHeadRun.topDef (OpenLaw.row PySem.Challenge.rw_firingrules_k19_hits).prog 41) (kwd := []) K19.ob_eq
    (by kernel_rfl) (fun s => by kernel_rfl) K19.run (by kernel_rfl) (by kernel_rfl) (by kernel_rfl) (by rfl) (by first | assumption | decide +kernel) (by decide +kernel) ⟨rfl, rfl, rfl, rfl, rfl, by decide +kernel⟩ ?hw ?hc
  case hw => w_witness2
  case hc =>
    refine DL.lawG_walkE (l := PySem.Challenge.rw_firingrules_k19_hits) (k := 7) (x := "_law_script") rfl (by kernel_rfl) ⟨⟨rfl, by decide, by decide⟩, DL.guards_caller⟩ ?F
    intro w mg fa h Y G hmg0
    obtain ⟨K, KX, c, hfb⟩ := Y
    have hmg : mg ("law" : PySem.Str) = some (.ref fa) := by
      have e : (HandSHeadRun.topDef (OpenLaw.row PySem.Challenge.rw_firingrules_k19_hits).prog 41).name = ("law" : PySem.Str) := by kernel_rfl
      rw [← e]
      exact hmg0
    obtain ⟨fd, hb, hF⟩ := K19.facts (P := (PySem.Challenge.rw_firingrules_k19_hits).prog) (w := w) (T := ⟨K, fun c => He.ga K ((["Schema"] : List PySem.Str).getD c ""), KS.flds⟩) KX G hmg c hfb rfl rfl
    exact ⟨⟨K, fun c => He.ga K ((["Schema"] : List PySem.Str).getD c ""), KS.flds⟩, fd, KX, hb, hF⟩
