import PyProof.Rows.All
import Wide.All
import OpenK.AllK
import Wide.FinOn
import HandS.ForMost
import HandS.Exc
import HandS.ExcOwn
import HandS.ExcInit
import HandS.TryOnly
import HandS.WordsExc
import HandS.Wide
import HandS.WideMore
import HandS.Deep
import HandS.TupAny
import HandS.TupMul
import HandS.IsInst
import HandS.Style
import HandS.RaiseMore
import HandS.DictComp
import HandS.Dict
import PyProof.StrBlock2
import HandS.Defaults
import HandS.HeadHook1
import HandS.HeadHook2
import HandS.Head0
import HandS.Head1
import HandS.Head2
import HandS.HeadEnd
import KE.KStateDown
import PyProof.P3Eq
import HandS.Codes
import PySem.Challenge.RW_firingrules_k12_integers_and_names
set_option Elab.async false
set_option linter.all false
set_option maxRecDepth 100000
set_option maxHeartbeats 4000000
namespace DL
open PySem PySem.Spec PyProof.Rows L2

/-- a value as plain data; what may change stands at an address -/
inductive D where
  | non | bl (b : Bool) | int (i : Int) | str (x : Str) | ty (n : String) | ref (a : Addr)
  | tup (xs : List D) | lst (xs : List D) | frl (xs : List D) | dic (ks : List Key) (vs : List D) | obj (c : Nat) (vs : List D)
/-- what may change -/
inductive DO where
  | lst (xs : List D) | dic (ks : List Key) (vs : List D) | ins (c : Nat) (vs : List D)
abbrev GH := Addr → Option DO
def gset (G : GH) (a : Addr) (o : DO) : GH := fun b => if b = a then some o else G b
def gdel (G : GH) (a : Addr) : GH := fun b => if b = a then none else G b
theorem gset_same {G : GH} {a : Addr} {o : DO} : gset G a o a = some o := if_pos rfl
theorem gset_ne {G : GH} {a b : Addr} {o : DO} (h : b ≠ a) : gset G a o b = G b := if_neg h
theorem gset_gset {G : GH} {a : Addr} {o u : DO} : gset (gset G a o) a u = gset G a u := by
  funext b; unfold gset; split <;> rfl
theorem gdel_same {G : GH} {a : Addr} : gdel G a a = none := if_pos rfl
theorem gdel_ne {G : GH} {a b : Addr} (h : b ≠ a) : gdel G a b = G b := if_neg h
theorem gdel_gset {G : GH} {a : Addr} {o : DO} (h : G a = none) : gdel (gset G a o) a = G := by
  funext b; unfold gdel gset; split
  · rename_i e; rw [e, h]
  · rfl
/-- what is fixed: the written part, the classes, their fields -/
structure Tb where
  K : PySem.W.Frag
  cls : Nat → Addr
  flds : Nat → List Str

def KLst (K : PySem.W.Frag) (a : Addr) (xs : List V) : Prop := ∃ (o : Obj) (its : Array Value) (n : Nat), K.lookup a = some o ∧ o.cls = .type "list" ∧ o.dict = none ∧ o.data = .seq its n ∧ its.size ≤ sizeLine ∧ Vals xs its.toList
def KTup (K : PySem.W.Frag) (a : Addr) (xs : List V) : Prop := ∃ (o : Obj) (its : Array Value) (n : Nat), K.lookup a = some o ∧ o.cls = .type "tuple" ∧ o.data = .seq its n ∧ its.size ≤ sizeLine ∧ Vals xs its.toList
def FzL (K : PySem.W.Frag) (G : GH) (H : Hp) (a : Addr) (xs : List V) : Prop := (G a = none ∧ ∃ o, H a = some (.frz o (.lst xs))) ∨ KLst K a xs
def FzT (K : PySem.W.Frag) (G : GH) (H : Hp) (a : Addr) (xs : List V) : Prop := (G a = none ∧ Rd H a (.tup xs)) ∨ KTup K a xs
theorem FzL.sq {K : PySem.W.Frag} {G : GH} {H : Hp} {a : Addr} {xs : List V} (h : FzL K G H a xs) : SqL K H a xs := h.elim (fun z => .inl (.inr z.2)) fun z => .inr z
theorem FzT.sq {K : PySem.W.Frag} {G : GH} {H : Hp} {a : Addr} {xs : List V} (h : FzT K G H a xs) : SqT K H a xs := h.elim (fun z => .inl z.2) fun z => .inr z

mutual
inductive RV (T : Tb) (G : GH) (H : Hp) : D → V → Prop
  | non : RV T G H .non .non
  | bl (b : Bool) : RV T G H (.bl b) (.bl b)
  | int (i : Int) : RV T G H (.int i) (.int i)
  | str (x : Str) : RV T G H (.str x) (.str x)
  | ty (n : String) : RV T G H (.ty n) (.ty n)
  | ref (a : Addr) : RV T G H (.ref a) (.ref a)
  | tup {a : Addr} {xs : List V} {ds : List D} : FzT T.K G H a xs → ds.length ≤ sizeLine → RVs T G H ds xs → RV T G H (.tup ds) (.ref a)
  | lst {a : Addr} {xs : List V} {ds : List D} : G a = none → H a = some (.lst xs) → ds.length ≤ sizeLine → RVs T G H ds xs → RV T G H (.lst ds) (.ref a)
  | frl {a : Addr} {xs : List V} {ds : List D} : FzL T.K G H a xs → ds.length ≤ sizeLine → RVs T G H ds xs → RV T G H (.frl ds) (.ref a)
  | dic {a : Addr} {kvs : List (Key × V)} {ks : List Key} {xs : List V} {ds : List D} : G a = none → H a = some (.dK kvs) → kvs = ks.zip xs → ks.length = xs.length → RVs T G H ds xs → RV T G H (.dic ks ds) (.ref a)
  | obj {c : Nat} {a dx : Addr} {xs : List V} {ds : List D} : G a = none → H a = some (.ins (T.cls c) dx ((T.flds c).zip xs)) → xs.length = (T.flds c).length → RVs T G H ds xs → RV T G H (.obj c ds) (.ref a)
inductive RVs (T : Tb) (G : GH) (H : Hp) : List D → List V → Prop
  | nil : RVs T G H [] []
  | cons {d : D} {v : V} {ds : List D} {vs : List V} : RV T G H d v → RVs T G H ds vs → RVs T G H (d :: ds) (v :: vs)
end
/-- what is not of the changing part stays -/
def Keep (G : GH) (H : Hp) (G' : GH) (H' : Hp) : Prop := ∀ a o, G a = none → H a = some o → H' a = some o ∧ G' a = none
theorem Keep.refl (G : GH) (H : Hp) : Keep G H G H := fun _ _ g h => ⟨h, g⟩
theorem Keep.trans {G G1 G2 : GH} {H H1 H2 : Hp} (a : Keep G H G1 H1) (b : Keep G1 H1 G2 H2) : Keep G H G2 H2 := fun c o g h => b c o (a c o g h).2 (a c o g h).1
theorem Keep.rd {G G' : GH} {H H' : Hp} (k : Keep G H G' H') {a : Addr} {u : HO} (g : G a = none) (r : Rd H a u) : Rd H' a u ∧ G' a = none := by
  rcases r with r | ⟨o, r⟩
  · exact ⟨.inl (k _ _ g r).1, (k _ _ g r).2⟩
  · exact ⟨.inr ⟨o, (k _ _ g r).1⟩, (k _ _ g r).2⟩
theorem Keep.fzL {K : PySem.W.Frag} {G G' : GH} {H H' : Hp} (k : Keep G H G' H') {a : Addr} {xs : List V} (h : FzL K G H a xs) : FzL K G' H' a xs := by
  rcases h with ⟨g, o, r⟩ | h
  · exact .inl ⟨(k _ _ g r).2, o, (k _ _ g r).1⟩
  · exact .inr h
theorem Keep.fzT {K : PySem.W.Frag} {G G' : GH} {H H' : Hp} (k : Keep G H G' H') {a : Addr} {xs : List V} (h : FzT K G H a xs) : FzT K G' H' a xs := by
  rcases h with ⟨g, r⟩ | h
  · exact .inl ⟨(k.rd g r).2, (k.rd g r).1⟩
  · exact .inr h
mutual
theorem RV.keep {T : Tb} {G G' : GH} {H H' : Hp} (k : Keep G H G' H') : ∀ {d : D} {v : V}, RV T G H d v → RV T G' H' d v
  | _, _, .non => .non
  | _, _, .bl b => .bl b
  | _, _, .int i => .int i
  | _, _, .str x => .str x
  | _, _, .ty n => .ty n
  | _, _, .ref a => .ref a
  | _, _, .tup h l r => .tup (k.fzT h) l (RVs.keep k r)
  | _, _, .lst g h l r => .lst (k _ _ g h).2 (k _ _ g h).1 l (RVs.keep k r)
  | _, _, .frl h l r => .frl (k.fzL h) l (RVs.keep k r)
  | _, _, .dic g h e l r => .dic (k _ _ g h).2 (k _ _ g h).1 e l (RVs.keep k r)
  | _, _, .obj g h l r => .obj (k _ _ g h).2 (k _ _ g h).1 l (RVs.keep k r)
theorem RVs.keep {T : Tb} {G G' : GH} {H H' : Hp} (k : Keep G H G' H') : ∀ {ds : List D} {vs : List V}, RVs T G H ds vs → RVs T G' H' ds vs
  | _, _, .nil => .nil
  | _, _, .cons a b => .cons (RV.keep k a) (RVs.keep k b)
end
theorem RVs.length {T : Tb} {G : GH} {H : Hp} : ∀ {ds : List D} {vs : List V}, RVs T G H ds vs → ds.length = vs.length
  | _, _, .nil => rfl
  | _, _, .cons _ t => congrArg (· + 1) (RVs.length t)
theorem RVs.get {T : Tb} {G : GH} {H : Hp} : ∀ {ds : List D} {vs : List V} {i : Nat} {d : D}, RVs T G H ds vs → ds[i]? = some d → ∃ v, vs[i]? = some v ∧ RV T G H d v
  | _, _, _, _, .nil, e => by simp at e
  | _, _, 0, _, .cons a _, e => by simp at e; subst e; exact ⟨_, rfl, a⟩
  | _, _, i + 1, d, .cons _ t, e => by
    obtain ⟨v, h1, h2⟩ := RVs.get (i := i) (d := d) t (by simpa using e)
    exact ⟨v, by simpa using h1, h2⟩
theorem RVs.getV {T : Tb} {G : GH} {H : Hp} : ∀ {ds : List D} {vs : List V} {i : Nat} {v : V}, RVs T G H ds vs → vs[i]? = some v → ∃ d, ds[i]? = some d ∧ RV T G H d v
  | _, _, _, _, .nil, e => by simp at e
  | _, _, 0, _, .cons a _, e => by simp at e; subst e; exact ⟨_, rfl, a⟩
  | _, _, i + 1, d, .cons _ t, e => by
    obtain ⟨v, h1, h2⟩ := RVs.getV (i := i) (v := d) t (by simpa using e)
    exact ⟨v, by simpa using h1, h2⟩
theorem RVs.append {T : Tb} {G : GH} {H : Hp} : ∀ {ds es : List D} {vs us : List V}, RVs T G H ds vs → RVs T G H es us → RVs T G H (ds ++ es) (vs ++ us)
  | _, _, _, _, .nil, s => s
  | _, _, _, _, .cons r t, s => .cons r (RVs.append t s)
theorem RVs.take {T : Tb} {G : GH} {H : Hp} : ∀ {ds : List D} {vs : List V} (n : Nat), RVs T G H ds vs → RVs T G H (ds.take n) (vs.take n)
  | _, _, 0, _ => .nil
  | _, _, _ + 1, .nil => .nil
  | _, _, n + 1, .cons r t => .cons r (RVs.take n t)
theorem RVs.drop {T : Tb} {G : GH} {H : Hp} : ∀ {ds : List D} {vs : List V} (n : Nat), RVs T G H ds vs → RVs T G H (ds.drop n) (vs.drop n)
  | _, _, 0, r => r
  | _, _, _ + 1, .nil => .nil
  | _, _, n + 1, .cons _ t => RVs.drop n t
theorem RVs.set {T : Tb} {G : GH} {H : Hp} {d : D} {v : V} (r : RV T G H d v) : ∀ {ds : List D} {vs : List V} (i : Nat), RVs T G H ds vs → RVs T G H (ds.set i d) (vs.set i v)
  | _, _, _, .nil => .nil
  | _, _, 0, .cons _ t => .cons r t
  | _, _, i + 1, .cons q t => .cons q (RVs.set r i t)

def ROb (T : Tb) (G : GH) (H : Hp) (a : Addr) : DO → Prop
  | .lst ds => ∃ xs, H a = some (.lst xs) ∧ ds.length ≤ sizeLine ∧ RVs T G H ds xs
  | .dic ks ds => ∃ xs, H a = some (.dK (ks.zip xs)) ∧ ks.length = xs.length ∧ RVs T G H ds xs
  | .ins c ds => ∃ dx xs, H a = some (.ins (T.cls c) dx ((T.flds c).zip xs)) ∧ xs.length ≤ (T.flds c).length ∧ RVs T G H ds xs
def RH (T : Tb) (G : GH) (H : Hp) : Prop := ∀ a o, G a = some o → ROb T G H a o
theorem ROb.there {T : Tb} {G : GH} {H : Hp} {a : Addr} : ∀ {o : DO}, ROb T G H a o → ∃ u, H a = some u ∧ Mut (some u)
  | .lst _, ⟨_, h, _⟩ => ⟨_, h, trivial⟩
  | .dic _ _, ⟨_, h, _⟩ => ⟨_, h, trivial⟩
  | .ins _ _, ⟨_, _, h, _⟩ => ⟨_, h, trivial⟩
theorem ROb.keep {T : Tb} {G G' : GH} {H H' : Hp} {a : Addr} (k : Keep G H G' H') (e : H' a = H a) : ∀ {o : DO}, ROb T G H a o → ROb T G' H' a o
  | .lst _, ⟨xs, h, l, r⟩ => ⟨xs, e.trans h, l, r.keep k⟩
  | .dic _ _, ⟨xs, h, l, r⟩ => ⟨xs, e.trans h, l, r.keep k⟩
  | .ins _ _, ⟨dx, xs, h, l, r⟩ => ⟨dx, xs, e.trans h, l, r.keep k⟩
theorem RH.fresh {T : Tb} {G : GH} {H : Hp} (h : RH T G H) {p : Addr} (n : H p = none) : G p = none := by
  cases e : G p with
  | none => rfl
  | some o =>
    obtain ⟨u, q, _⟩ := (h p o e).there
    rw [n] at q; cases q
/-- a new untracked-by-G object -/
theorem Keep.new {G : GH} {H : Hp} {p : Addr} {u : HO} (n : H p = none) : Keep G H G (upd H p u) := fun a o g h => ⟨by rw [upd_ne (ne_of_none h n)]; exact h, g⟩
theorem RH.new {T : Tb} {G : GH} {H : Hp} (h : RH T G H) {p : Addr} {u : HO} (n : H p = none) : RH T G (upd H p u) := fun a o g => by
  have hp : a ≠ p := by rintro rfl; rw [h.fresh n] at g; cases g
  exact (h a o g).keep (Keep.new n) (upd_ne hp)
/-- a new changing object -/
theorem Keep.newG {G : GH} {H : Hp} {p : Addr} {u : HO} {d : DO} (n : H p = none) : Keep G H (gset G p d) (upd H p u) := fun a o g h => by
  have hp : a ≠ p := ne_of_none h n
  exact ⟨by rw [upd_ne hp]; exact h, by rw [gset_ne hp]; exact g⟩
theorem RH.newG {T : Tb} {G : GH} {H : Hp} (h : RH T G H) {p : Addr} {u : HO} {d : DO} (n : H p = none) (hd : ROb T (gset G p d) (upd H p u) p d) : RH T (gset G p d) (upd H p u) := fun a o g => by
  by_cases hp : a = p
  · subst hp; rw [gset_same] at g; cases g; exact hd
  · rw [gset_ne hp] at g
    exact (h a o g).keep (Keep.newG n) (upd_ne hp)
/-- a changing object changes -/
theorem Keep.put {G : GH} {H : Hp} {p : Addr} {u : HO} {d d0 : DO} (e : G p = some d0) : Keep G H (gset G p d) (upd H p u) := fun a o g h => by
  have hp : a ≠ p := by rintro rfl; rw [e] at g; cases g
  exact ⟨by rw [upd_ne hp]; exact h, by rw [gset_ne hp]; exact g⟩
theorem RH.put {T : Tb} {G : GH} {H : Hp} (h : RH T G H) {p : Addr} {u : HO} {d d0 : DO} (e : G p = some d0) (hd : ROb T (gset G p d) (upd H p u) p d) : RH T (gset G p d) (upd H p u) := fun a o g => by
  by_cases hp : a = p
  · subst hp; rw [gset_same] at g; cases g; exact hd
  · rw [gset_ne hp] at g
    exact (h a o g).keep (Keep.put e) (upd_ne hp)
/-- a changing object is held to be fixed from now on -/
theorem Keep.freeze {G : GH} {H : Hp} {p : Addr} : Keep G H (gdel G p) H := fun a o g h => ⟨h, by unfold gdel; split <;> first | rfl | exact g⟩
theorem RH.freeze {T : Tb} {G : GH} {H : Hp} (h : RH T G H) (p : Addr) : RH T (gdel G p) H := fun a o g => by
  have hp : a ≠ p := by rintro rfl; rw [gdel_same] at g; cases g
  rw [gdel_ne hp] at g
  exact (h a o g).keep Keep.freeze rfl

abbrev Ev := List (Option D)
def lk : Ev → Nat → Option D
  | [], _ => none
  | d :: _, 0 => d
  | _ :: r, i + 1 => lk r i
theorem lk_eq : ∀ (env : Ev) (i : Nat) (d : D), lk env i = some d → env[i]? = some (some d)
  | [], _, _, h => by cases h
  | x :: _, 0, d, h => by show some x = _; exact congrArg some h
  | _ :: r, i + 1, d, h => lk_eq r i d h
def RS (T : Tb) (G : GH) (H : Hp) (env : Ev) (σ : List (Option V)) : Prop := env.length = σ.length ∧ ∀ (i : Nat) (d : D), env[i]? = some (some d) → ∃ v, σ[i]? = some (some v) ∧ RV T G H d v
theorem RS.keep {T : Tb} {G G' : GH} {H H' : Hp} (k : Keep G H G' H') {env : Ev} {σ : List (Option V)} (h : RS T G H env σ) : RS T G' H' env σ :=
  ⟨h.1, fun i d e => let ⟨v, a, b⟩ := h.2 i d e; ⟨v, a, b.keep k⟩⟩
theorem RS.set {T : Tb} {G : GH} {H : Hp} {env : Ev} {σ : List (Option V)} {d : D} {v : V} (h : RS T G H env σ) (i : Nat) (r : RV T G H d v) : RS T G H (env.set i (some d)) (σ.set i (some v)) := by
  refine ⟨by rw [List.length_set, List.length_set]; exact h.1, fun j e hj => ?_⟩
  by_cases hij : i = j
  · subst hij
    by_cases hl : i < env.length
    · rw [List.getElem?_set_self hl] at hj; cases hj
      exact ⟨v, List.getElem?_set_self (by rw [← h.1]; exact hl), r⟩
    · have : (env.set i (some d))[i]? = none := List.getElem?_eq_none (by rw [List.length_set]; omega)
      rw [this] at hj; cases hj
  · rw [List.getElem?_set_ne hij] at hj ⊢
    exact h.2 j e hj
theorem RS.unset {T : Tb} {G : GH} {H : Hp} {env : Ev} {σ : List (Option V)} (h : RS T G H env σ) (i : Nat) : RS T G H (env.set i none) (σ.set i none) := by
  refine ⟨by rw [List.length_set, List.length_set]; exact h.1, fun j e hj => ?_⟩
  by_cases hij : i = j
  · subst hij
    by_cases hl : i < env.length
    · rw [List.getElem?_set_self hl] at hj; cases hj
    · have : (env.set i none)[i]? = none := List.getElem?_eq_none (by rw [List.length_set]; omega)
      rw [this] at hj; cases hj
  · rw [List.getElem?_set_ne hij] at hj ⊢
    exact h.2 j e hj
/-- a slot that is not told -/
theorem RS.unset' {T : Tb} {G : GH} {H : Hp} {env : Ev} {σ : List (Option V)} (h : RS T G H env σ) (i : Nat) : RS T G H (env.set i none) σ := by
  refine ⟨by rw [List.length_set]; exact h.1, fun j e hj => ?_⟩
  by_cases hij : i = j
  · subst hij
    by_cases hl : i < env.length
    · rw [List.getElem?_set_self hl] at hj; cases hj
    · have : (env.set i none)[i]? = none := List.getElem?_eq_none (by rw [List.length_set]; omega)
      rw [this] at hj; cases hj
  · rw [List.getElem?_set_ne hij] at hj
    exact h.2 j e hj
def wipeE (env : Ev) : List Nat → Ev
  | [] => env
  | v :: vs => (wipeE env vs).set v none
theorem RS.wipe {T : Tb} {G : GH} {H : Hp} {env : Ev} {σ : List (Option V)} (h : RS T G H env σ) : ∀ vs, RS T G H (wipeE env vs) (wipe σ vs)
  | [] => h
  | v :: vs => (RS.wipe h vs).unset v
end DL
set_option Elab.async false
set_option linter.all false
set_option maxRecDepth 100000
set_option maxHeartbeats 4000000
namespace DL
open PySem PySem.Spec PyProof.Rows L2

abbrev DK := D → GH → Prop
abbrev DX := Nat → List D → GH → Prop
abbrev TEd := Ev → GH → DK → DX → Prop
abbrev TTd := Ev → GH → (Bool → GH → Prop) → DX → Prop
abbrev TAd := Ev → GH → (List D → GH → Prop) → DX → Prop
structure DEnds where
  nx : Ev → GH → Prop
  rt : D → GH → Prop
  bk : Ev → GH → Prop
  ct : Ev → GH → Prop
  ex : Nat → List D → Ev → GH → Prop
abbrev TSd := DEnds → Ev → GH → Prop
/-- an exception of the class c with its fields -/
def RX (T : Tb) (G : GH) (H : Hp) (c : Nat) (ds : List D) (cl : Value) (dx : Option Addr) : Prop :=
  cl = .ref (T.cls c) ∧ (ds = [] ∨ ∃ d xs, dx = some d ∧ G d = none ∧ H d = some (.xd ((T.flds c).zip xs)) ∧ xs.length = (T.flds c).length ∧ RVs T G H ds xs)
def QV (T : Tb) (G : GH) (H : Hp) (Q : DK) : VK := fun v H' => ∃ d G', RV T G' H' d v ∧ RH T G' H' ∧ Keep G H G' H' ∧ Q d G'
def ExOk (T : Tb) (W : WX) (G : GH) (H : Hp) (σ : List (Option V)) (Ex : DX) : Prop :=
  ∀ c ds G' cl dx H', Ex c ds G' → RX T G' H' c ds cl dx → RH T G' H' → Keep G H G' H' → W cl dx σ H'
theorem ExOk.keep {T : Tb} {W : WX} {G G1 : GH} {H H1 : Hp} {σ : List (Option V)} {Ex : DX} (k : Keep G H G1 H1) (h : ExOk T W G H σ Ex) : ExOk T W G1 H1 σ Ex :=
  fun c ds G' cl dx H' a b d e => h c ds G' cl dx H' a b d (k.trans e)
theorem QV.keep {T : Tb} {G G1 : GH} {H H1 : Hp} {Q : DK} {v : V} {H' : Hp} (k : Keep G H G1 H1) (h : QV T G1 H1 Q v H') : QV T G H Q v H' := by
  obtain ⟨d, G', a, b, c, e⟩ := h
  exact ⟨d, G', a, b, k.trans c, e⟩
/-- a D-reading as one of the layer below -/
def liftE (T : Tb) (W : WX) (t : TEd) : TE := fun σ H Qv => ∃ env G Q Ex, RS T G H env σ ∧ RH T G H ∧ ExOk T W G H σ Ex ∧ t env G Q Ex ∧ ∀ v H', QV T G H Q v H' → Qv v H'
def liftT (T : Tb) (W : WX) (t : TTd) : TT := fun σ H Qb => ∃ env G Q Ex, RS T G H env σ ∧ RH T G H ∧ ExOk T W G H σ Ex ∧ t env G Q Ex ∧ ∀ b H' G', RH T G' H' → Keep G H G' H' → Q b G' → Qb b H'
def liftA (T : Tb) (W : WX) (t : TAd) : TA := fun σ H Qs => ∃ env G Q Ex, RS T G H env σ ∧ RH T G H ∧ ExOk T W G H σ Ex ∧ t env G Q Ex ∧ ∀ vs H' ds G', RVs T G' H' ds vs → RH T G' H' → Keep G H G' H' → Q ds G' → Qs vs H'
structure QE (T : Tb) (X : Cx) (W : WX) (e : Expr) (t : TEd) : Prop where
  pe : PE X e (liftE T W t)
structure QT (T : Tb) (X : Cx) (W : WX) (e : Expr) (t : TTd) : Prop where
  pt : PT X e (liftT T W t)
structure QW (T : Tb) (X : Cx) (W : WX) (e : Expr) (t : TTd) : Prop where
  pw : PW X e (liftT T W t)
structure QA (T : Tb) (X : Cx) (W : WX) (es : List Expr) (t : TAd) : Prop where
  pa : PA X es (liftA T W t)
section
variable {T : Tb} {X : Cx} {W : WX} {e a b : Expr} {es : List Expr} {t ta tb : TEd} {pos : Pos}
theorem PE.imp {t0 t1 : TE} (h : PE X e t0) (hi : ∀ σ H Q, t1 σ H Q → t0 σ H Q) : PE X e t1 := ⟨fun pins s σ H Q I q => h.run pins s σ H Q I (hi σ H Q q)⟩
theorem PT.imp {t0 t1 : TT} (h : PT X e t0) (hi : ∀ σ H Q, t1 σ H Q → t0 σ H Q) : PT X e t1 := ⟨fun pins s σ H Q I q => h.run pins s σ H Q I (hi σ H Q q)⟩
theorem PW.imp {t0 t1 : TT} (h : PW X e t0) (hi : ∀ σ H Q, t1 σ H Q → t0 σ H Q) : PW X e t1 := ⟨fun wh pins s σ H Q I q => h.run wh pins s σ H Q I (hi σ H Q q)⟩
theorem PA.imp {t0 t1 : TA} (h : PA X es t0) (hi : ∀ σ H Q, t1 σ H Q → t0 σ H Q) : PA X es t1 := ⟨fun pos pins s σ H Q I q => h.run pos pins s σ H Q I (hi σ H Q q)⟩
/-- into the lower reading -/
theorem intoE {t : TEd} {env : Ev} {G : GH} {H : Hp} {σ : List (Option V)} {Q : DK} {Ex : DX} {Qv : VK} (rs : RS T G H env σ) (rh : RH T G H) (ex : ExOk T W G H σ Ex) (h : t env G Q Ex)
    (k : ∀ d v G' H', RV T G' H' d v → RH T G' H' → Keep G H G' H' → Q d G' → Qv v H') : liftE T W t σ H Qv :=
  ⟨env, G, Q, Ex, rs, rh, ex, h, fun v H' ⟨d, G', a, b, c, e⟩ => k d v G' H' a b c e⟩
theorem intoT {t : TTd} {env : Ev} {G : GH} {H : Hp} {σ : List (Option V)} {Q : Bool → GH → Prop} {Ex : DX} {Qv : Bool → Hp → Prop} (rs : RS T G H env σ) (rh : RH T G H) (ex : ExOk T W G H σ Ex) (h : t env G Q Ex)
    (k : ∀ b G' H', RH T G' H' → Keep G H G' H' → Q b G' → Qv b H') : liftT T W t σ H Qv :=
  ⟨env, G, Q, Ex, rs, rh, ex, h, fun b H' G' => k b G' H'⟩
theorem intoA {t : TAd} {env : Ev} {G : GH} {H : Hp} {σ : List (Option V)} {Q : List D → GH → Prop} {Ex : DX} {Qv : List V → Hp → Prop} (rs : RS T G H env σ) (rh : RH T G H) (ex : ExOk T W G H σ Ex) (h : t env G Q Ex)
    (k : ∀ ds vs G' H', RVs T G' H' ds vs → RH T G' H' → Keep G H G' H' → Q ds G' → Qv vs H') : liftA T W t σ H Qv :=
  ⟨env, G, Q, Ex, rs, rh, ex, h, fun vs H' ds G' => k ds vs G' H'⟩
/-- a rule of the layer below, told of data -/
theorem QE.of {t0 : TE} (h : PE X e t0) (hi : ∀ env G σ H Q Ex Qv, RS T G H env σ → RH T G H → ExOk T W G H σ Ex → t env G Q Ex → (∀ d v G' H', RV T G' H' d v → RH T G' H' → Keep G H G' H' → Q d G' → Qv v H') → t0 σ H Qv) : QE T X W e t :=
  ⟨PE.imp h fun σ H Qv ⟨env, G, Q, Ex, rs, rh, ex, q, k⟩ => hi env G σ H Q Ex Qv rs rh ex q fun d v G' H' x1 x2 x3 x4 => k v H' ⟨d, G', x1, x2, x3, x4⟩⟩
theorem QT.of {t : TTd} {t0 : TT} (h : PT X e t0) (hi : ∀ env G σ H Q Ex Qv, RS T G H env σ → RH T G H → ExOk T W G H σ Ex → t env G Q Ex → (∀ b G' H', RH T G' H' → Keep G H G' H' → Q b G' → Qv b H') → t0 σ H Qv) : QT T X W e t :=
  ⟨PT.imp h fun σ H Qv ⟨env, G, Q, Ex, rs, rh, ex, q, k⟩ => hi env G σ H Q Ex Qv rs rh ex q fun b G' H' x1 x2 x3 => k b H' G' x1 x2 x3⟩
theorem QW.of {t : TTd} {t0 : TT} (h : PW X e t0) (hi : ∀ env G σ H Q Ex Qv, RS T G H env σ → RH T G H → ExOk T W G H σ Ex → t env G Q Ex → (∀ b G' H', RH T G' H' → Keep G H G' H' → Q b G' → Qv b H') → t0 σ H Qv) : QW T X W e t :=
  ⟨PW.imp h fun σ H Qv ⟨env, G, Q, Ex, rs, rh, ex, q, k⟩ => hi env G σ H Q Ex Qv rs rh ex q fun b G' H' x1 x2 x3 => k b H' G' x1 x2 x3⟩
theorem QA.of {t : TAd} {t0 : TA} (h : PA X es t0) (hi : ∀ env G σ H Q Ex Qv, RS T G H env σ → RH T G H → ExOk T W G H σ Ex → t env G Q Ex → (∀ ds vs G' H', RVs T G' H' ds vs → RH T G' H' → Keep G H G' H' → Q ds G' → Qv vs H') → t0 σ H Qv) : QA T X W es t :=
  ⟨PA.imp h fun σ H Qv ⟨env, G, Q, Ex, rs, rh, ex, q, k⟩ => hi env G σ H Q Ex Qv rs rh ex q fun ds vs G' H' x0 x1 x2 x3 => k vs H' ds G' x0 x1 x2 x3⟩

/-! ### names, constants -/
def wVar (i : Nat) : TEd := fun env G Q _ => ∃ d, lk env i = some d ∧ Q d G
def wC (d : D) : TEd := fun _ G Q _ => Q d G
theorem qv (i : Nat) {x : Str} (hN : X.N[i]? = some x := by rfl) (hv : Vis X.env.scope x := by first | exact Or.inl rfl | exact Or.inr (Or.inl rfl) | exact Or.inr (Or.inr rfl)) (hd : (x == ("__debug__" : Str)) = false := by decide)
    (hcd : (x == ("__classdict__" : Str)) = false := by decide) : QE T X W (.Name x pos) (wVar i) :=
  QE.of (pe_var hN hv hd hcd) fun env G σ H Q Ex Qv rs rh ex ⟨d, e, q⟩ k => by
    obtain ⟨v, h1, h2⟩ := rs.2 i d (lk_eq _ _ _ e)
    exact ⟨v, h1, k d v G H h2 rh (Keep.refl _ _) q⟩
theorem qc {d : D} {v : V} (h : PE X e (tC v)) (r : ∀ G H, RV T G H d v) : QE T X W e (wC d) :=
  QE.of h fun env G σ H Q Ex Qv rs rh ex q k => k d v G H (r G H) rh (Keep.refl _ _) q
theorem q_int {i j pos} : QE T X W (.Constant (.int i) j pos) (wC (.int i)) := qc pe_int fun _ _ => .int i
theorem q_bl {b j pos} : QE T X W (.Constant (.bool b) j pos) (wC (.bl b)) := qc pe_bl fun _ _ => .bl b
theorem q_non {j pos} : QE T X W (.Constant .none j pos) (wC .non) := qc pe_non fun _ _ => .non
theorem q_str {x j pos} : QE T X W (.Constant (.str x) j pos) (wC (.str x)) := qc pe_str fun _ _ => .str x
theorem q_glob {x : Str} {v : V} {u : Value} {d : D} (hg : Gl X x) (hm : X.mg x = some u) (r : RelV v u) (rd : ∀ G H, RV T G H d v) (hd : (x == ("__debug__" : Str)) = false := by decide) : QE T X W (.Name x pos) (wC d) := qc (pe_glob hg hm r hd) rd

/-! ### operators -/
abbrev O2 := D → D → GH → DK → Prop
/-- what an operator of data asks, in the words below -/
def OpI (T : Tb) (r0 : R2) (o : O2) : Prop := ∀ G H x y v u (Q : DK) (Qv : VK), RH T G H → RV T G H x v → RV T G H y u → o x y G Q → (∀ d w G' H', RV T G' H' d w → RH T G' H' → Keep G H G' H' → Q d G' → Qv w H') → r0 v u H Qv
def wOp (o : O2) (ta tb : TEd) : TEd := fun env G Q Ex => ta env G (fun x G1 => tb env G1 (fun y G2 => o x y G2 Q) Ex) Ex
theorem tOp_in {r0 : R2} {o : O2} (oi : OpI T r0 o) {env : Ev} {G : GH} {H : Hp} {σ : List (Option V)} {Q : DK} {Ex : DX} {Qv : VK} (rs : RS T G H env σ) (rh : RH T G H) (ex : ExOk T W G H σ Ex) (q : wOp o ta tb env G Q Ex)
    (k : ∀ d v G' H', RV T G' H' d v → RH T G' H' → Keep G H G' H' → Q d G' → Qv v H') : tOp r0 (liftE T W ta) (liftE T W tb) σ H Qv :=
  intoE rs rh ex q fun x v G1 H1 rx rh1 k1 q1 => intoE (rs.keep k1) rh1 (ex.keep k1) q1 fun y u G2 H2 ry rh2 k2 q2 =>
    oi G2 H2 x y v u Q Qv rh2 (rx.keep k2) ry q2 fun d w G3 H3 rd rh3 k3 q3 => k d w G3 H3 rd rh3 ((k1.trans k2).trans k3) q3
theorem q_op {op : Operator} {r0 : R2} {o : O2} (ho : OpR X (binaryOp op) r0) (oi : OpI T r0 o) (ha : QE T X W a ta) (hb : QE T X W b tb) : QE T X W (.BinOp a op b pos) (wOp o ta tb) :=
  QE.of (pe_op ho ha.pe hb.pe) fun env G σ H Q Ex Qv rs rh ex q k => tOp_in oi rs rh ex q k
theorem q_cmp {op : CmpOp} {r0 : R2} {o : O2} (ho : OpR X (compareOp op) r0) (oi : OpI T r0 o) (ha : QE T X W a ta) (hb : QE T X W b tb) (hm : behindInMarks op b = false := by first | exact nomark _ | rfl) : QE T X W (.Compare a [op] [b] pos) (wOp o ta tb) :=
  QE.of (pe_cmpR ho ha.pe hb.pe hm) fun env G σ H Q Ex Qv rs rh ex q k => tOp_in oi rs rh ex q k
/-- a pure operator by a partial function -/
def pureO (f : D → D → Option D) : O2 := fun x y G Q => ∃ r, f x y = some r ∧ Q r G
def isB : D → Option Bool
  | .bl b => some b
  | _ => none
def wTest (t : TEd) : TTd := fun env G Q Ex => t env G (fun x G1 => ∃ b, x = .bl b ∧ Q b G1) Ex
theorem qt_cmp {op : CmpOp} {r0 : R2} {o : O2} (ho : OpR X (compareOp op) r0) (oi : OpI T r0 o) (ha : QE T X W a ta) (hb : QE T X W b tb) (hm : behindInMarks op b = false := by first | exact nomark _ | rfl) : QT T X W (.Compare a [op] [b] pos) (wTest (wOp o ta tb)) :=
  QT.of (pt_cmpR ho ha.pe hb.pe hm) fun env G σ H Q Ex Qv rs rh ex q k => tOp_in (Qv := fun x H' => ∃ k, x = .bl k ∧ Qv k H') oi rs rh ex q fun d v G' H' rv rh' kk q' => by
    obtain ⟨c, e, q'⟩ := q'
    subst e
    cases rv
    exact ⟨c, rfl, k c G' H' rh' kk q'⟩
/-- any expression whose value is a bool -/
theorem qt_val (h : QE T X W e t) (he : ∀ whole, isTrue e X.env whole = (do let v ← whole; standAt e.pos; holding [v] (truthy v)) := by intro _; rfl) : QT T X W e (wTest t) :=
  QT.of (pt_val h.pe he) fun env G σ H Q Ex Qv rs rh ex q k => intoE rs rh ex q fun d v G' H' rv rh' kk ⟨c, e, q'⟩ => by
    subst e
    cases rv
    exact ⟨c, rfl, k c G' H' rh' kk q'⟩
/-! ### and, or, not -/
def wAndT (t u : TTd) : TTd := fun env G Q Ex => t env G (fun c G1 => if c = true then u env G1 Q Ex else Q false G1) Ex
def wOrT (t u : TTd) : TTd := fun env G Q Ex => t env G (fun c G1 => if c = true then Q true G1 else u env G1 Q Ex) Ex
def wNotT (t : TTd) : TTd := fun env G Q Ex => t env G (fun c G1 => Q (!c) G1) Ex
variable {tA tB' : TTd} {rest : List Expr}
theorem QW.qt (h : QW T X W e tA) : QT T X W e tA := ⟨h.pw.pt⟩
theorem qw_and1 (ha : QT T X W a tA) : QW T X W (.BoolOp .And [a] pos) tA := ⟨pw_and1 ha.pt⟩
theorem qw_or1 (ha : QT T X W a tA) : QW T X W (.BoolOp .Or [a] pos) tA := ⟨pw_or1 ha.pt⟩
theorem qw_and (ha : QT T X W a tA) (hb : QW T X W (.BoolOp .And (b :: rest) pos) tB') : QW T X W (.BoolOp .And (a :: b :: rest) pos) (wAndT tA tB') :=
  QW.of (pw_and ha.pt hb.pw) fun env G σ H Q Ex Qv rs rh ex q k => intoT rs rh ex q fun c G1 H1 rh1 k1 q1 => by
    cases c with
    | true =>
      rw [if_pos rfl] at q1 ⊢
      exact intoT (rs.keep k1) rh1 (ex.keep k1) q1 fun b G2 H2 rh2 k2 q2 => k b G2 H2 rh2 (k1.trans k2) q2
    | false =>
      rw [if_neg Bool.false_ne_true] at q1 ⊢
      exact k false G1 H1 rh1 k1 q1
theorem qw_or (ha : QT T X W a tA) (hb : QW T X W (.BoolOp .Or (b :: rest) pos) tB') : QW T X W (.BoolOp .Or (a :: b :: rest) pos) (wOrT tA tB') :=
  QW.of (pw_or ha.pt hb.pw) fun env G σ H Q Ex Qv rs rh ex q k => intoT rs rh ex q fun c G1 H1 rh1 k1 q1 => by
    cases c with
    | false =>
      rw [if_neg Bool.false_ne_true] at q1 ⊢
      exact intoT (rs.keep k1) rh1 (ex.keep k1) q1 fun b G2 H2 rh2 k2 q2 => k b G2 H2 rh2 (k1.trans k2) q2
    | true =>
      rw [if_pos rfl] at q1 ⊢
      exact k true G1 H1 rh1 k1 q1
theorem qt_not (ha : QT T X W a tA) : QT T X W (.UnaryOp .Not a pos) (wNotT tA) :=
  QT.of (pt_not ha.pt) fun env G σ H Q Ex Qv rs rh ex q k => intoT rs rh ex q fun c G1 H1 rh1 k1 q1 => k _ G1 H1 rh1 k1 q1
def wAnd (ta tb : TEd) : TEd := fun env G Q Ex => ta env G (fun x G1 => ∃ c, x = .bl c ∧ if c = true then tb env G1 Q Ex else Q (.bl false) G1) Ex
def wOr (ta tb : TEd) : TEd := fun env G Q Ex => ta env G (fun x G1 => ∃ c, x = .bl c ∧ if c = true then Q (.bl true) G1 else tb env G1 Q Ex) Ex
def wNot (ta : TEd) : TEd := fun env G Q Ex => ta env G (fun x G1 => ∃ c, x = .bl c ∧ Q (.bl (!c)) G1) Ex
theorem q_one {op} (h : QE T X W a t) : QE T X W (.BoolOp op [a] pos) t := ⟨pe_one h.pe⟩
theorem q_and (ha : QE T X W a ta) (hb : QE T X W (.BoolOp .And (b :: rest) pos) tb) : QE T X W (.BoolOp .And (a :: b :: rest) pos) (wAnd ta tb) :=
  QE.of (pe_and ha.pe hb.pe) fun env G σ H Q Ex Qv rs rh ex q k => intoE rs rh ex q fun x v G1 H1 rx rh1 k1 ⟨c, e, q1⟩ => by
    subst e
    cases rx
    refine ⟨c, rfl, ?_⟩
    cases c with
    | true =>
      rw [if_pos rfl] at q1 ⊢
      exact intoE (rs.keep k1) rh1 (ex.keep k1) q1 fun d w G2 H2 rd rh2 k2 q2 => k d w G2 H2 rd rh2 (k1.trans k2) q2
    | false =>
      rw [if_neg Bool.false_ne_true] at q1 ⊢
      exact k _ _ G1 H1 (.bl false) rh1 k1 q1
theorem q_or (ha : QE T X W a ta) (hb : QE T X W (.BoolOp .Or (b :: rest) pos) tb) : QE T X W (.BoolOp .Or (a :: b :: rest) pos) (wOr ta tb) :=
  QE.of (pe_or ha.pe hb.pe) fun env G σ H Q Ex Qv rs rh ex q k => intoE rs rh ex q fun x v G1 H1 rx rh1 k1 ⟨c, e, q1⟩ => by
    subst e
    cases rx
    refine ⟨c, rfl, ?_⟩
    cases c with
    | false =>
      rw [if_neg Bool.false_ne_true] at q1 ⊢
      exact intoE (rs.keep k1) rh1 (ex.keep k1) q1 fun d w G2 H2 rd rh2 k2 q2 => k d w G2 H2 rd rh2 (k1.trans k2) q2
    | true =>
      rw [if_pos rfl] at q1 ⊢
      exact k _ _ G1 H1 (.bl true) rh1 k1 q1
theorem q_not (ha : QE T X W a ta) : QE T X W (.UnaryOp .Not a pos) (wNot ta) :=
  QE.of (pe_not ha.pe) fun env G σ H Q Ex Qv rs rh ex q k => intoE rs rh ex q fun x v G1 H1 rx rh1 k1 ⟨c, e, q1⟩ => by
    subst e
    cases rx
    exact ⟨c, rfl, k _ _ G1 H1 (.bl _) rh1 k1 q1⟩
def wIf (tc : TTd) (ta tb : TEd) : TEd := fun env G Q Ex => tc env G (fun c G1 => if c = true then ta env G1 Q Ex else tb env G1 Q Ex) Ex
theorem q_ife {c : Expr} (hc : QT T X W c tA) (ha : QE T X W a ta) (hb : QE T X W b tb) : QE T X W (.IfExp c a b pos) (wIf tA ta tb) :=
  QE.of (pe_ifExp hc.pt ha.pe hb.pe) fun env G σ H Q Ex Qv rs rh ex q k => intoT rs rh ex q fun c G1 H1 rh1 k1 q1 => by
    cases c with
    | false =>
      rw [if_neg Bool.false_ne_true] at q1 ⊢
      exact intoE (rs.keep k1) rh1 (ex.keep k1) q1 fun d w G2 H2 rd rh2 k2 q2 => k d w G2 H2 rd rh2 (k1.trans k2) q2
    | true =>
      rw [if_pos rfl] at q1 ⊢
      exact intoE (rs.keep k1) rh1 (ex.keep k1) q1 fun d w G2 H2 rd rh2 k2 q2 => k d w G2 H2 rd rh2 (k1.trans k2) q2
/-! ### argument lists, displays -/
def wNil : TAd := fun _ G Q _ => Q [] G
def wCons (t : TEd) (u : TAd) : TAd := fun env G Q Ex => t env G (fun d G1 => u env G1 (fun ds G2 => Q (d :: ds) G2) Ex) Ex
theorem qa_nil : QA T X W [] wNil := QA.of pa_nil fun env G σ H Q Ex Qv rs rh ex q k => k [] [] G H .nil rh (Keep.refl _ _) q
theorem qa_cons {u : TAd} (ha : QE T X W e t) (hr : QA T X W es u) (hs : starEach (e :: es) X.env = (false, eval e X.env) :: starEach es X.env := by rfl) : QA T X W (e :: es) (wCons t u) :=
  QA.of (pa_cons ha.pe hr.pa hs) fun env G σ H Q Ex Qv rs rh ex q k => intoE rs rh ex q fun d v G1 H1 rd rh1 k1 q1 => intoA (rs.keep k1) rh1 (ex.keep k1) q1 fun ds vs G2 H2 rds rh2 k2 q2 =>
    k _ _ G2 H2 (.cons (rd.keep k2) rds) rh2 (k1.trans k2) q2
def wTup (t : TAd) : TEd := fun env G Q Ex => t env G (fun ds G1 => ds.length ≤ sizeLine ∧ Q (.tup ds) G1) Ex
/-- a list that is never changed -/
def wLst (t : TAd) : TEd := fun env G Q Ex => t env G (fun ds G1 => ds.length ≤ sizeLine ∧ Q (.lst ds) G1) Ex
/-- a list that may be changed -/
def wLstM (t : TAd) : TEd := fun env G Q Ex => t env G (fun ds G1 => ds.length ≤ sizeLine ∧ ∀ p, G1 p = none → Q (.ref p) (gset G1 p (.lst ds))) Ex
theorem q_tup {u : TAd} {x1} (h : QA T X W es u) : QE T X W (.Tuple es x1 pos) (wTup u) :=
  QE.of (pe_tup h.pa) fun env G σ H Q Ex Qv rs rh ex q k => intoA rs rh ex q fun ds vs G1 H1 rds rh1 k1 ⟨l, q1⟩ => ⟨by rw [← rds.length]; exact l, fun p np =>
    k _ _ G1 _ (.tup (xs := vs) (.inl ⟨rh1.fresh np, .of upd_same⟩) l (rds.keep (Keep.new np))) (rh1.new np) (k1.trans (Keep.new np)) q1⟩
theorem q_lst {u : TAd} (h : QA T X W es u) : QE T X W (.List es pos) (wLst u) :=
  QE.of (pe_lst h.pa) fun env G σ H Q Ex Qv rs rh ex q k => intoA rs rh ex q fun ds vs G1 H1 rds rh1 k1 ⟨l, q1⟩ => ⟨by rw [← rds.length]; exact l, fun p np =>
    k _ _ G1 _ (.lst (xs := vs) (rh1.fresh np) upd_same l (rds.keep (Keep.new np))) (rh1.new np) (k1.trans (Keep.new np)) q1⟩
theorem q_lstM {u : TAd} (h : QA T X W es u) : QE T X W (.List es pos) (wLstM u) :=
  QE.of (pe_lst h.pa) fun env G σ H Q Ex Qv rs rh ex q k => intoA rs rh ex q fun ds vs G1 H1 rds rh1 k1 ⟨l, q1⟩ => ⟨by rw [← rds.length]; exact l, fun p np =>
    k _ _ _ _ (.ref p) (rh1.newG (d := .lst ds) np ⟨vs, upd_same, l, rds.keep (Keep.newG np)⟩) (k1.trans (Keep.newG np)) (q1 p (rh1.fresh np))⟩
/-! ### built-in functions, by values -/
abbrev OL := List D → GH → DK → Prop
def CallI (T : Tb) (r0 : List V → Hp → VK → Prop) (o : OL) : Prop := ∀ G H ds vs (Q : DK) (Qv : VK), RH T G H → RVs T G H ds vs → o ds G Q → (∀ d w G' H', RV T G' H' d w → RH T G' H' → Keep G H G' H' → Q d G' → Qv w H') → r0 vs H Qv
def wCall (o : OL) (t : TAd) : TEd := fun env G Q Ex => t env G (fun ds G1 => o ds G1 Q) Ex
theorem q_callB {id : String} {x : Str} {p : Pos} {r0 : List V → Hp → VK → Prop} {o : OL} {u : TAd} (hc : CallR X (.builtin id) r0) (ci : CallI T r0 o) (hg : Gl X x) (hm : X.mg x = none) (hv : bootBuiltins x = some (.builtin id)) (ha : QA T X W (e :: es) u) (hn : x ≠ "__name__" := by decide) (hdb : (x == ("__debug__" : Str)) = false := by decide)
    (he : starEach (e :: es) X.env = (false, eval e X.env) :: starEach es X.env := by rfl) (hpl : (backTo pos (starEach es X.env)).any (·.1) = false := by rfl) : QE T X W (.Call (.Name x p) (e :: es) [] pos) (wCall o u) :=
  QE.of (pe_callB hc hg hm hv ha.pa hn hdb he hpl) fun env G σ H Q Ex Qv rs rh ex q k => intoA rs rh ex q fun ds vs G1 H1 rds rh1 k1 q1 => ci G1 H1 ds vs Q Qv rh1 rds q1 fun d w G' H' rd rh2 k2 q2 => k d w G' H' rd rh2 (k1.trans k2) q2
theorem q_callTy {T' : String} {x : Str} {p : Pos} {r0 : List V → Hp → VK → Prop} {o : OL} {u : TAd} (hc : CallR X (.type T') r0) (ci : CallI T r0 o) (hg : Gl X x) (hm : X.mg x = none) (hv : bootBuiltins x = some (.type T')) (ha : QA T X W (e :: es) u) (hn : x ≠ "__name__" := by decide) (hdb : (x == ("__debug__" : Str)) = false := by decide)
    (he : starEach (e :: es) X.env = (false, eval e X.env) :: starEach es X.env := by rfl) (hpl : (backTo pos (starEach es X.env)).any (·.1) = false := by rfl) : QE T X W (.Call (.Name x p) (e :: es) [] pos) (wCall o u) :=
  QE.of (pe_callTy hc hg hm hv ha.pa hn hdb he hpl) fun env G σ H Q Ex Qv rs rh ex q k => intoA rs rh ex q fun ds vs G1 H1 rds rh1 k1 q1 => ci G1 H1 ds vs Q Qv rh1 rds q1 fun d w G' H' rd rh2 k2 q2 => k d w G' H' rd rh2 (k1.trans k2) q2
end
end DL
set_option Elab.async false
set_option linter.all false
set_option maxRecDepth 100000
set_option maxHeartbeats 4000000
namespace DL
open PySem PySem.Spec PyProof.Rows L2

/-! ### arithmetic -/
def rOr (r r' : R2) : R2 := fun x y H Q => r x y H Q ∨ r' x y H Q
def addO : O2 := fun x y G Q => match x, y with
  | .int i, .int j => Q (.int (i + j)) G
  | .str a, .str b => a.length + b.length ≤ sizeLine ∧ Q (.str (a ++ b)) G
  | .tup a, .tup b => a.length + b.length ≤ sizeLine ∧ Q (.tup (a ++ b)) G
  | .lst a, .lst b => a.length + b.length ≤ sizeLine ∧ Q (.lst (a ++ b)) G
  | _, _ => False
def rStrAdd : R2 := fun x y H Q => ∃ i j, x = .str i ∧ y = .str j ∧ i.length + j.length ≤ sizeLine ∧ Q (.str (i ++ j)) H
theorem op_addD {X : Cx} : OpR X (binaryOp .Add) (rOr (rI0 fun i j => .int (i + j)) (rOr rStrAdd (rOr (rCatA X.K) rCat))) :=
  op_add.or (op_add_str.or (op_catA.or op_cat))
theorem oi_add {T : Tb} {K : PySem.W.Frag} (hK : K = T.K) : OpI T (rOr (rI0 fun i j => .int (i + j)) (rOr rStrAdd (rOr (rCatA K) rCat))) addO := by
  intro G H x y v u Q Qv rh rx ry q k
  subst hK
  cases rx with
  | int i =>
    cases ry with
    | int j => exact .inl ⟨i, j, rfl, rfl, k _ _ G H (.int _) rh (Keep.refl _ _) q⟩
    | _ => exact False.elim q
  | str a =>
    cases ry with
    | str b => exact .inr (.inl ⟨a, b, rfl, rfl, q.1, k _ _ G H (.str _) rh (Keep.refl _ _) q.2⟩)
    | _ => exact False.elim q
  | tup h l1 r =>
    rename_i a xs ds
    cases ry with
    | tup h2 l2 r2 =>
      rename_i b ys es
      have q1 : ds.length + es.length ≤ sizeLine := q.1
      have q2 : Q (.tup (ds ++ es)) G := q.2
      refine .inr (.inr (.inl ⟨a, b, xs, ys, rfl, rfl, h.sq, h2.sq, by rw [← r.length, ← r2.length]; exact q1, fun e => ?_, fun _ e => ?_, fun _ _ p np => ?_⟩))
      · subst e
        cases r
        exact k _ _ G H (.tup h2 l2 r2) rh (Keep.refl _ _) q2
      · subst e
        cases r2
        rw [List.append_nil] at q2
        exact k _ _ G H (.tup h l1 r) rh (Keep.refl _ _) q2
      · exact k _ _ G _ (.tup (.inl ⟨rh.fresh np, .of upd_same⟩) (by rw [List.length_append]; exact q1) ((r.append r2).keep (Keep.new np))) (rh.new np) (Keep.new np) q2
    | _ => exact False.elim q
  | lst g h l1 r =>
    rename_i a xs ds
    cases ry with
    | lst g2 h2 l2 r2 =>
      rename_i b ys es
      have q1 : ds.length + es.length ≤ sizeLine := q.1
      have q2 : Q (.lst (ds ++ es)) G := q.2
      exact .inr (.inr (.inr ⟨a, b, xs, ys, rfl, rfl, h, h2, by rw [← r.length, ← r2.length]; exact q1, fun p np =>
        k _ _ G _ (.lst (rh.fresh np) upd_same (by rw [List.length_append]; exact q1) ((r.append r2).keep (Keep.new np))) (rh.new np) (Keep.new np) q2⟩))
    | _ => exact False.elim q
  | _ => cases ry <;> exact False.elim q
def intO (C : Int → Int → Prop) (g : Int → Int → D) : O2 := fun x y G Q => match x, y with
  | .int i, .int j => C i j ∧ Q (g i j) G
  | _, _ => False
theorem oi_int {T : Tb} {C : Int → Int → Prop} {g : Int → Int → V} {g' : Int → Int → D} (hg : ∀ G H i j, RV T G H (g' i j) (g i j)) : OpI T (rI C g) (intO C g') := by
  intro G H x y v u Q Qv rh rx ry q k
  cases rx with
  | int i =>
    cases ry with
    | int j => exact ⟨i, j, rfl, rfl, q.1, k _ _ G H (hg G H i j) rh (Keep.refl _ _) q.2⟩
    | _ => exact False.elim q
  | _ => cases ry <;> exact False.elim q
def int0 (g : Int → Int → D) : O2 := fun x y G Q => match x, y with
  | .int i, .int j => Q (g i j) G
  | _, _ => False
theorem oi_int0 {T : Tb} {g : Int → Int → V} {g' : Int → Int → D} (hg : ∀ G H i j, RV T G H (g' i j) (g i j)) : OpI T (rI0 g) (int0 g') := by
  intro G H x y v u Q Qv rh rx ry q k
  cases rx with
  | int i =>
    cases ry with
    | int j => exact ⟨i, j, rfl, rfl, k _ _ G H (hg G H i j) rh (Keep.refl _ _) q⟩
    | _ => exact False.elim q
  | _ => cases ry <;> exact False.elim q
abbrev subO : O2 := int0 fun i j => .int (i - j)
abbrev modO : O2 := intO (fun _ j => 0 < j) fun i j => .int (i % j)
abbrev fdivO : O2 := intO CDivW fun i j => .int (i / j)
abbrev mulIO : O2 := intO CMulW fun i j => .int (i * j)
abbrev mulO : O2 := intO CMul fun i j => .int (i * j)
abbrev powO : O2 := intO CPow fun i j => .int (i ^ j.toNat)
abbrev shlO : O2 := intO CPow fun i j => .int (i * 2 ^ j.toNat)
abbrev ltO : O2 := int0 fun i j => .bl (decide (i < j))
abbrev leO : O2 := int0 fun i j => .bl (decide (i ≤ j))
abbrev gtO : O2 := int0 fun i j => .bl (decide (j < i))
abbrev geO : O2 := int0 fun i j => .bl (decide (j ≤ i))
section
variable {T : Tb} {X : Cx} {W : WX} {e a b c : Expr} {es : List Expr} {t ta tb tc : TEd} {pos : Pos}
theorem q_add (hK : X.K = T.K) (ha : QE T X W a ta) (hb : QE T X W b tb) : QE T X W (.BinOp a .Add b pos) (wOp addO ta tb) := q_op op_addD (oi_add hK) ha hb
theorem q_sub (ha : QE T X W a ta) (hb : QE T X W b tb) : QE T X W (.BinOp a .Sub b pos) (wOp subO ta tb) := q_op op_sub (oi_int0 fun _ _ _ _ => .int _) ha hb
theorem q_mod (ha : QE T X W a ta) (hb : QE T X W b tb) : QE T X W (.BinOp a .Mod b pos) (wOp modO ta tb) := q_op op_mod (oi_int fun _ _ _ _ => .int _) ha hb
theorem q_fdiv (ha : QE T X W a ta) (hb : QE T X W b tb) : QE T X W (.BinOp a .FloorDiv b pos) (wOp fdivO ta tb) := q_op op_fdivW (oi_int fun _ _ _ _ => .int _) ha hb
theorem q_mul (ha : QE T X W a ta) (hb : QE T X W b tb) : QE T X W (.BinOp a .Mult b pos) (wOp mulO ta tb) := q_op op_mul (oi_int fun _ _ _ _ => .int _) ha hb
theorem q_mulW (ha : QE T X W a ta) (hb : QE T X W b tb) : QE T X W (.BinOp a .Mult b pos) (wOp mulIO ta tb) := q_op op_mulW (oi_int fun _ _ _ _ => .int _) ha hb
theorem q_pow (ha : QE T X W a ta) (hb : QE T X W b tb) : QE T X W (.BinOp a .Pow b pos) (wOp powO ta tb) := q_op op_pow (oi_int fun _ _ _ _ => .int _) ha hb
theorem q_shl (ha : QE T X W a ta) (hb : QE T X W b tb) : QE T X W (.BinOp a .LShift b pos) (wOp shlO ta tb) := q_op op_shl (oi_int fun _ _ _ _ => .int _) ha hb
theorem q_lt (ha : QE T X W a ta) (hb : QE T X W b tb) : QE T X W (.Compare a [.Lt] [b] pos) (wOp ltO ta tb) := q_cmp op_lt (oi_int0 fun _ _ _ _ => .bl _) ha hb
theorem q_le (ha : QE T X W a ta) (hb : QE T X W b tb) : QE T X W (.Compare a [.LtE] [b] pos) (wOp leO ta tb) := q_cmp op_le (oi_int0 fun _ _ _ _ => .bl _) ha hb
theorem q_gt (ha : QE T X W a ta) (hb : QE T X W b tb) : QE T X W (.Compare a [.Gt] [b] pos) (wOp gtO ta tb) := q_cmp op_gt (oi_int0 fun _ _ _ _ => .bl _) ha hb
theorem q_ge (ha : QE T X W a ta) (hb : QE T X W b tb) : QE T X W (.Compare a [.GtE] [b] pos) (wOp geO ta tb) := q_cmp op_ge (oi_int0 fun _ _ _ _ => .bl _) ha hb
theorem qt_lt (ha : QE T X W a ta) (hb : QE T X W b tb) : QT T X W (.Compare a [.Lt] [b] pos) (wTest (wOp ltO ta tb)) := qt_cmp op_lt (oi_int0 fun _ _ _ _ => .bl _) ha hb
theorem qt_le (ha : QE T X W a ta) (hb : QE T X W b tb) : QT T X W (.Compare a [.LtE] [b] pos) (wTest (wOp leO ta tb)) := qt_cmp op_le (oi_int0 fun _ _ _ _ => .bl _) ha hb
theorem qt_gt (ha : QE T X W a ta) (hb : QE T X W b tb) : QT T X W (.Compare a [.Gt] [b] pos) (wTest (wOp gtO ta tb)) := qt_cmp op_gt (oi_int0 fun _ _ _ _ => .bl _) ha hb
theorem qt_ge (ha : QE T X W a ta) (hb : QE T X W b tb) : QT T X W (.Compare a [.GtE] [b] pos) (wTest (wOp geO ta tb)) := qt_cmp op_ge (oi_int0 fun _ _ _ _ => .bl _) ha hb
def negO : TEd → TEd := fun ta env G Q Ex => ta env G (fun x G1 => ∃ i, x = .int i ∧ Q (.int (-i)) G1) Ex
theorem q_neg (ha : QE T X W a ta) : QE T X W (.UnaryOp .USub a pos) (negO ta) :=
  QE.of (pe_un un_neg ha.pe) fun env G σ H Q Ex Qv rs rh ex q k => intoE rs rh ex q fun x v G1 H1 rx rh1 k1 ⟨i, e, q1⟩ => by
    subst e
    cases rx
    exact ⟨i, rfl, k _ _ G1 H1 (.int _) rh1 k1 q1⟩
/-- a op b op' c -/
def wChain (o o' : O2) (ta tb tc : TEd) : TEd := fun env G Q Ex => ta env G (fun x G1 => tb env G1 (fun y G2 => o x y G2 (fun z G3 => ∃ k, z = .bl k ∧ if k = true then tc env G3 (fun w G4 => o' y w G4 Q) Ex else Q (.bl false) G3)) Ex) Ex
theorem chain_in {r r' : R2} {o o' : O2} (oi : OpI T r o) (oi' : OpI T r' o') {env : Ev} {G : GH} {H : Hp} {σ : List (Option V)} {Q : DK} {Ex : DX} {Qv : VK} (rs : RS T G H env σ) (rh : RH T G H) (ex : ExOk T W G H σ Ex) (q : wChain o o' ta tb tc env G Q Ex)
    (k : ∀ d v G' H', RV T G' H' d v → RH T G' H' → Keep G H G' H' → Q d G' → Qv v H') : tChain r r' (liftE T W ta) (liftE T W tb) (liftE T W tc) σ H Qv :=
  intoE rs rh ex q fun x v G1 H1 rx rh1 k1 q1 => intoE (rs.keep k1) rh1 (ex.keep k1) q1 fun y u G2 H2 ry rh2 k2 q2 =>
    oi G2 H2 x y v u _ _ rh2 (rx.keep k2) ry q2 fun d w G3 H3 rd rh3 k3 ⟨b, e, q3⟩ => by
      subst e
      cases rd
      refine ⟨b, rfl, ?_⟩
      have k123 := (k1.trans k2).trans k3
      cases b with
      | true =>
        rw [if_pos rfl] at q3 ⊢
        exact intoE (rs.keep k123) rh3 (ex.keep k123) q3 fun z w' G4 H4 rz rh4 k4 q4 =>
          oi' G4 H4 y z u w' Q Qv rh4 (ry.keep (k3.trans k4)) rz q4 fun d5 v5 G5 H5 r5 rh5 k5 q5 => k d5 v5 G5 H5 r5 rh5 ((k123.trans k4).trans k5) q5
      | false =>
        rw [if_neg Bool.false_ne_true] at q3 ⊢
        exact k _ _ G3 H3 (.bl false) rh3 k123 q3
theorem q_chain {op op' : CmpOp} {r r' : R2} {o o' : O2} (ho : OpR X (compareOp op) r) (ho' : OpR X (compareOp op') r') (oi : OpI T r o) (oi' : OpI T r' o') (ha : QE T X W a ta) (hb : QE T X W b tb) (hc : QE T X W c tc)
    (h : PE X (.Compare a [op, op'] [b, c] pos) (tChain r r' (liftE T W ta) (liftE T W tb) (liftE T W tc))) : QE T X W (.Compare a [op, op'] [b, c] pos) (wChain o o' ta tb tc) :=
  QE.of h fun env G σ H Q Ex Qv rs rh ex q k => chain_in oi oi' rs rh ex q k
theorem qt_chain {op op' : CmpOp} {r r' : R2} {o o' : O2} (oi : OpI T r o) (oi' : OpI T r' o')
    (h : PT X (.Compare a [op, op'] [b, c] pos) (tTest (tChain r r' (liftE T W ta) (liftE T W tb) (liftE T W tc)))) : QT T X W (.Compare a [op, op'] [b, c] pos) (wTest (wChain o o' ta tb tc)) :=
  QT.of h fun env G σ H Q Ex Qv rs rh ex q k => chain_in (Qv := fun x H' => ∃ c, x = .bl c ∧ Qv c H') oi oi' rs rh ex q fun d v G' H' rd rh' kk ⟨c, e, q'⟩ => by
    subst e
    cases rd
    exact ⟨c, rfl, k c G' H' rh' kk q'⟩
end
end DL
set_option Elab.async false
set_option linter.all false
set_option maxRecDepth 100000
set_option maxHeartbeats 4000000
namespace DL
open PySem PySem.Spec PyProof.Rows L2

/-! ### indices -/
theorem atI_rv {T : Tb} {G : GH} {H : Hp} {ds : List D} {vs : List V} {i : Int} {d : D} (r : RVs T G H ds vs) (h : atI ds i = some d) : ∃ v, atI vs i = some v ∧ RV T G H d v := by
  unfold atI at h ⊢
  rw [← r.length]
  cases e : ixN ds.length i with
  | none => rw [e] at h; cases h
  | some j =>
    rw [e] at h
    obtain ⟨v, h1, h2⟩ := r.get (i := j) (d := d) h
    exact ⟨v, h1, h2⟩
def ixO : O2 := fun x y G Q => match y with
  | .int i => match x with
    | .tup ds => ∃ d, atI ds i = some d ∧ Q d G
    | .lst ds => ∃ d, atI ds i = some d ∧ Q d G
    | .frl ds => ∃ d, atI ds i = some d ∧ Q d G
    | .str z => z.length ≤ sizeLine ∧ ∃ c, atI z.cps.toList i = some c ∧ Q (.str ⟨#[c]⟩) G
    | .ref a => ∃ ds, G a = some (.lst ds) ∧ ∃ d, atI ds i = some d ∧ Q d G
    | _ => False
  | _ => False
theorem oi_ix {T : Tb} {K : PySem.W.Frag} (hK : K = T.K) : OpI T (rIx K) ixO := by
  intro G H x y v u Q Qv rh rx ry q k
  subst hK
  cases ry with
  | int i =>
    cases rx with
    | tup h _ r =>
      obtain ⟨d, e, q⟩ := q
      obtain ⟨w, h1, h2⟩ := atI_rv r e
      exact .inr (.inl ⟨_, _, i, w, rfl, rfl, h.sq, h1, k d w G H h2 rh (Keep.refl _ _) q⟩)
    | lst g h _ r =>
      obtain ⟨d, e, q⟩ := q
      obtain ⟨w, h1, h2⟩ := atI_rv r e
      exact .inl ⟨_, _, i, w, rfl, rfl, SqL.of h, h1, k d w G H h2 rh (Keep.refl _ _) q⟩
    | frl h _ r =>
      obtain ⟨d, e, q⟩ := q
      obtain ⟨w, h1, h2⟩ := atI_rv r e
      exact .inl ⟨_, _, i, w, rfl, rfl, h.sq, h1, k d w G H h2 rh (Keep.refl _ _) q⟩
    | str z =>
      obtain ⟨hz, c, e, q⟩ := q
      exact .inr (.inr ⟨z, i, c, rfl, rfl, hz, e, k _ _ G H (.str _) rh (Keep.refl _ _) q⟩)
    | ref a =>
      obtain ⟨ds, g, d, e, q⟩ := q
      obtain ⟨xs, hx, _, r⟩ := rh a _ g
      obtain ⟨w, h1, h2⟩ := atI_rv r e
      exact .inl ⟨_, _, i, w, rfl, rfl, SqL.of hx, h1, k d w G H h2 rh (Keep.refl _ _) q⟩
    | _ => exact False.elim q
  | _ => exact False.elim q
/-! ### slices -/
def cutD {α : Type} (xs : List α) (lo hi : Option Int) : List α := (xs.drop (HT.sIx xs.length 0 lo)).take (HT.sIx xs.length xs.length hi - HT.sIx xs.length 0 lo)
theorem cut_len {α : Type} (ds : List α) (lo hi : Option Int) : (cutD ds lo hi).length ≤ ds.length := by
  unfold cutD
  rw [List.length_take, List.length_drop]
  omega
theorem cut_rv {T : Tb} {G : GH} {H : Hp} {ds : List D} {vs : List V} (r : RVs T G H ds vs) (lo hi : Option Int) : RVs T G H (cutD ds lo hi) (cutV vs lo hi) := by
  unfold cutD cutV
  rw [← r.length]
  exact (r.drop _).take _
abbrev OSl := D → Option Int → Option Int → GH → DK → Prop
/-- a slice; of a list: a new list that is never changed -/
def slO : OSl := fun x lo hi G Q => match x with
  | .tup ds => Q (.tup (cutD ds lo hi)) G
  | .lst ds => Q (.lst (cutD ds lo hi)) G
  | .frl ds => Q (.lst (cutD ds lo hi)) G
  | .str z => z.length ≤ sizeLine ∧ Q (.str (cutS z lo hi)) G
  | .ref a => ∃ ds, G a = some (.lst ds) ∧ Q (.lst (cutD ds lo hi)) G
  | _ => False
def rSl3 (K : PySem.W.Frag) : V → Option Int → Option Int → Hp → VK → Prop := fun x lo hi H Q => rSlA K x lo hi H Q ∨ (rSlL K x lo hi H Q ∨ rSlS x lo hi H Q)
theorem sl_D {X : Cx} : SlR X (rSl3 X.K) := sl_tupA.or (sl_list.or sl_str)
abbrev TOd := Ev → GH → (Option Int → GH → Prop) → DX → Prop
def liftO (T : Tb) (W : WX) (t : TOd) : TO := fun σ H Qo => ∃ env G Q Ex, RS T G H env σ ∧ RH T G H ∧ ExOk T W G H σ Ex ∧ t env G Q Ex ∧ ∀ o H' G', RH T G' H' → Keep G H G' H' → Q o G' → Qo o H'
structure QO (T : Tb) (X : Cx) (W : WX) (e : Option Expr) (t : TOd) : Prop where
  po : PO X e (liftO T W t)
def wNoPart : TOd := fun _ G Q _ => Q none G
def wPart (t : TEd) : TOd := fun env G Q Ex => t env G (fun d G1 => ∃ i, d = .int i ∧ Q (some i) G1) Ex
section
variable {T : Tb} {X : Cx} {W : WX} {e a b : Expr} {es : List Expr} {t ta tb : TEd} {pos p2 : Pos} {lo hi : Option Expr} {tl th : TOd}
theorem intoO {t : TOd} {env : Ev} {G : GH} {H : Hp} {σ : List (Option V)} {Q : Option Int → GH → Prop} {Ex : DX} {Qv : Option Int → Hp → Prop} (rs : RS T G H env σ) (rh : RH T G H) (ex : ExOk T W G H σ Ex) (h : t env G Q Ex)
    (k : ∀ o G' H', RH T G' H' → Keep G H G' H' → Q o G' → Qv o H') : liftO T W t σ H Qv := ⟨env, G, Q, Ex, rs, rh, ex, h, fun o H' G' => k o G' H'⟩
theorem PO.imp {oe : Option Expr} {t0 t1 : TO} (h : PO X oe t0) (hi : ∀ σ H Q, t1 σ H Q → t0 σ H Q) : PO X oe t1 := ⟨fun pins s σ H Q I q => h.run pins s σ H Q I (hi σ H Q q)⟩
theorem qo_none : QO T X W none wNoPart := ⟨PO.imp po_none fun σ H Qo ⟨env, G, Q, Ex, rs, rh, ex, q, k⟩ => k none H G rh (Keep.refl _ _) q⟩
theorem qo_some (h : QE T X W e t) : QO T X W (some e) (wPart t) := ⟨PO.imp (po_some h.pe) fun σ H Qo ⟨env, G, Q, Ex, rs, rh, ex, q, k⟩ => intoE rs rh ex q fun d v G1 H1 rd rh1 k1 ⟨i, e, q1⟩ => by
  subst e
  cases rd
  exact ⟨i, rfl, k (some i) H1 G1 rh1 k1 q1⟩⟩
theorem q_ix (hK : X.K = T.K) (ha : QE T X W a ta) (hb : QE T X W b tb) (hs : PlainIx b := by intro _ _; rfl) : QE T X W (.Subscript a b pos) (wOp ixO ta tb) :=
  QE.of (pe_ix ix_seq ha.pe hb.pe hs) fun env G σ H Q Ex Qv rs rh ex q k => tOp_in (oi_ix hK) rs rh ex q k
def wSl (o : OSl) (ta : TEd) (tl th : TOd) : TEd := fun env G Q Ex => ta env G (fun x G1 => tl env G1 (fun l G2 => th env G2 (fun u G3 => o x l u G3 Q) Ex) Ex) Ex
theorem q_slice (hK : X.K = T.K) (ha : QE T X W e ta) (hl : QO T X W lo tl) (hu : QO T X W hi th) : QE T X W (.Subscript e (.Slice lo hi none p2) pos) (wSl slO ta tl th) :=
  QE.of (pe_slice sl_D ha.pe hl.po hu.po) fun env G σ H Q Ex Qv rs rh ex q k => intoE rs rh ex q fun x v G1 H1 rx rh1 k1 q1 => intoO (rs.keep k1) rh1 (ex.keep k1) q1 fun l G2 H2 rh2 k2 q2 =>
    intoO (rs.keep (k1.trans k2)) rh2 (ex.keep (k1.trans k2)) q2 fun u G3 H3 rh3 k3 q3 => by
      have kk := (k1.trans k2).trans k3
      have rx3 := rx.keep (k2.trans k3)
      rw [hK]
      cases rx3 with
      | tup h hl r =>
        rename_i a xs ds
        have q3 : Q (.tup (cutD ds l u)) G3 := q3
        refine .inl ⟨a, xs, rfl, h.sq, fun ⟨e1, e2⟩ => ?_, fun _ p np => ?_⟩
        · have e : cutD ds l u = ds := by
            unfold cutD
            rw [r.length, e1, e2, List.drop_zero, Nat.sub_zero, ← r.length, List.take_length]
          rw [e] at q3
          exact k _ _ G3 H3 (.tup h hl r) rh3 kk q3
        · exact k _ _ G3 _ (.tup (.inl ⟨rh3.fresh np, .of upd_same⟩) (Nat.le_trans (cut_len _ _ _) hl) ((cut_rv r l u).keep (Keep.new np))) (rh3.new np) (kk.trans (Keep.new np)) q3
      | lst g h hl r => exact .inr (.inl ⟨_, _, rfl, SqL.of h, fun p np => k _ _ G3 _ (.lst (rh3.fresh np) upd_same (Nat.le_trans (cut_len _ _ _) hl) ((cut_rv r l u).keep (Keep.new np))) (rh3.new np) (kk.trans (Keep.new np)) q3⟩)
      | frl h hl r => exact .inr (.inl ⟨_, _, rfl, h.sq, fun p np => k _ _ G3 _ (.lst (rh3.fresh np) upd_same (Nat.le_trans (cut_len _ _ _) hl) ((cut_rv r l u).keep (Keep.new np))) (rh3.new np) (kk.trans (Keep.new np)) q3⟩)
      | str z => exact .inr (.inr ⟨z, rfl, q3.1, k _ _ G3 H3 (.str _) rh3 kk q3.2⟩)
      | ref a =>
        obtain ⟨ds, g, q3⟩ := q3
        obtain ⟨xs, hx, hl, r⟩ := rh3 a _ g
        exact .inr (.inl ⟨_, _, rfl, SqL.of hx, fun p np => k _ _ G3 _ (.lst (rh3.fresh np) upd_same (Nat.le_trans (cut_len _ _ _) hl) ((cut_rv r l u).keep (Keep.new np))) (rh3.new np) (kk.trans (Keep.new np)) q3⟩)
      | _ => exact False.elim q3
end
/-! ### == of plain data -/
mutual
def pyD : D → PyData
  | .non => .none
  | .bl b => .bool b
  | .int i => .int i
  | .str x => .str x
  | .tup xs => .tuple (pyDs xs)
  | .lst xs => .list (pyDs xs)
  | .frl xs => .list (pyDs xs)
  | .ty _ => .dict []
  | .ref _ => .dict []
  | .dic _ _ => .dict []
  | .obj _ _ => .dict []
def pyDs : List D → List PyData
  | [] => []
  | d :: ds => pyD d :: pyDs ds
end
mutual
theorem RV.dp {T : Tb} {G : GH} {H : Hp} : ∀ {d : D} {v : V}, RV T G H d v → (pyD d).canLay0 = true → Dp T.K H v (pyD d)
  | _, _, .non, _ => .non
  | _, _, .bl b, _ => .bl b
  | _, _, .int i, _ => .int i
  | _, _, .str x, _ => .str x
  | _, _, .ty n, h => by unfold pyD PyData.canLay0 at h; cases h
  | _, _, .ref a, h => by unfold pyD PyData.canLay0 at h; cases h
  | _, _, .dic _ _ _ _ _, h => by unfold pyD PyData.canLay0 at h; cases h
  | _, _, .obj _ _ _ _, h => by unfold pyD PyData.canLay0 at h; cases h
  | _, _, .tup hx _ r, h => by unfold pyD; exact .tup hx.sq (RVs.dp r (by unfold pyD PyData.canLay0 at h; exact h))
  | _, _, .lst _ hx _ r, h => by unfold pyD; exact .lst (SqL.of hx) (RVs.dp r (by unfold pyD PyData.canLay0 at h; exact h))
  | _, _, .frl hx _ r, h => by unfold pyD; exact .lst hx.sq (RVs.dp r (by unfold pyD PyData.canLay0 at h; exact h))
theorem RVs.dp {T : Tb} {G : GH} {H : Hp} : ∀ {ds : List D} {vs : List V}, RVs T G H ds vs → PyData.canLayAll0 (pyDs ds) = true → DpAll T.K H vs (pyDs ds)
  | _, _, .nil, _ => .nil
  | _, _, .cons a b, h => by
    unfold pyDs PyData.canLayAll0 at h
    have h' := Bool.and_eq_true_iff.mp h
    unfold pyDs
    exact .cons (RV.dp a h'.1) (RVs.dp b h'.2)
end
/-- the list at a changing address -/
def lstAt : Option DO → Option (List D)
  | some (.lst ds) => some ds
  | _ => none
theorem lstAt_some {o : Option DO} {ds : List D} (h : lstAt o = some ds) : o = some (.lst ds) := by
  cases o with
  | none => cases h
  | some o =>
    cases o with
    | lst xs => cases h; rfl
    | dic _ _ => cases h
    | ins _ _ => cases h
/-- the list at a changing address, read as data -/
def topD (G : GH) : D → D
  | .ref a => (lstAt (G a)).elim (.ref a) D.lst
  | d => d
theorem topD_ref {G : GH} {a : Addr} {ds : List D} (h : G a = some (.lst ds)) : topD G (.ref a) = .lst ds := by
  show (lstAt (G a)).elim (.ref a) D.lst = _
  rw [h]; rfl
theorem topD_refN {G : GH} {a : Addr} (h : lstAt (G a) = none) : topD G (.ref a) = .ref a := by
  show (lstAt (G a)).elim (.ref a) D.lst = _
  rw [h]; rfl
theorem topD_cases (G : GH) (a : Addr) : (topD G (.ref a) = .ref a) ∨ ∃ ds, G a = some (.lst ds) ∧ topD G (.ref a) = .lst ds := by
  cases e : lstAt (G a) with
  | none => exact .inl (topD_refN e)
  | some ds => exact .inr ⟨ds, lstAt_some e, topD_ref (lstAt_some e)⟩
theorem topD_dp {T : Tb} {G : GH} {H : Hp} (rh : RH T G H) {d : D} {v : V} (r : RV T G H d v) (h : (pyD (topD G d)).canLay0 = true) : Dp T.K H v (pyD (topD G d)) := by
  cases r with
  | ref a =>
    rcases topD_cases G a with e | ⟨ds, g, e⟩
    · rw [e] at h
      unfold pyD PyData.canLay0 at h
      cases h
    · rw [e] at h ⊢
      obtain ⟨xs, hx, _, r⟩ := rh a _ g
      unfold pyD PyData.canLay0 at h
      unfold pyD
      exact .lst (SqL.of hx) (RVs.dp r h)
  | non => exact RV.dp (G := G) .non h
  | bl b => exact RV.dp (G := G) (.bl b) h
  | int i => exact RV.dp (G := G) (.int i) h
  | str x => exact RV.dp (G := G) (.str x) h
  | ty n => exact RV.dp (G := G) (.ty n) h
  | tup a l b => exact RV.dp (.tup a l b) h
  | lst a b l c => exact RV.dp (.lst a b l c) h
  | frl a l b => exact RV.dp (.frl a l b) h
  | dic a b c d e => exact RV.dp (.dic a b c d e) h
  | obj a b c d => exact RV.dp (.obj a b c d) h
/-- plain data of depth 60 at most -/
def okD (d : D) : Bool := SeqAt.shaped (pyD d)
def eqD (x y : D) : Bool := PyData.eqv (pyD x) (pyD y)
def eqG (x y : D) (G : GH) (Q : DK) : Prop := okD (topD G x) = true ∧ okD (topD G y) = true ∧ Q (.bl (eqD (topD G x) (topD G y))) G
def neG (x y : D) (G : GH) (Q : DK) : Prop := okD (topD G x) = true ∧ okD (topD G y) = true ∧ Q (.bl (!eqD (topD G x) (topD G y))) G
def eqS (u : Str) (y : D) (G : GH) (Q : DK) : Prop := match y with
  | .str v => Q (.bl (decide (u = v))) G
  | y => eqG (.str u) y G Q
def neS (u : Str) (y : D) (G : GH) (Q : DK) : Prop := match y with
  | .str v => Q (.bl (!decide (u = v))) G
  | y => neG (.str u) y G Q
def eqO : O2 := fun x y G Q => match x with
  | .str u => eqS u y G Q
  | x => eqG x y G Q
def neO : O2 := fun x y G Q => match x with
  | .str u => neS u y G Q
  | x => neG x y G Q
def rOr2 (r r' : R2) : R2 := fun x y H Q => r x y H Q ∨ r' x y H Q
theorem scal_ss (u v : Str) : scal (.str u) (.str v) = true := rfl
theorem dec_vs (u v : Str) : decide (V.str u = V.str v) = decide (u = v) := by
  by_cases h : u = v
  · rw [decide_eq_true h, decide_eq_true (congrArg V.str h)]
  · rw [decide_eq_false h, decide_eq_false fun e => h (V.str.inj e)]
theorem eqG_in {T : Tb} {G : GH} {H : Hp} {x y : D} {v u : V} {Q : DK} {Qv : VK} (rh : RH T G H) (rx : RV T G H x v) (ry : RV T G H y u) (h : eqG x y G Q)
    (k : ∀ d w G' H', RV T G' H' d w → RH T G' H' → Keep G H G' H' → Q d G' → Qv w H') : rOr2 (rEqD T.K) rEq v u H Qv := by
  obtain ⟨h1, h2, q⟩ := h
  exact .inl ⟨_, _, topD_dp rh rx (SeqAt.canLay_of_shaped h1), topD_dp rh ry (SeqAt.canLay_of_shaped h2), h1, h2, k _ _ G H (.bl _) rh (Keep.refl _ _) q⟩
theorem neG_in {T : Tb} {G : GH} {H : Hp} {x y : D} {v u : V} {Q : DK} {Qv : VK} (rh : RH T G H) (rx : RV T G H x v) (ry : RV T G H y u) (h : neG x y G Q)
    (k : ∀ d w G' H', RV T G' H' d w → RH T G' H' → Keep G H G' H' → Q d G' → Qv w H') : rOr2 (rNeD T.K) rNe v u H Qv := by
  obtain ⟨h1, h2, q⟩ := h
  exact .inl ⟨_, _, topD_dp rh rx (SeqAt.canLay_of_shaped h1), topD_dp rh ry (SeqAt.canLay_of_shaped h2), h1, h2, k _ _ G H (.bl _) rh (Keep.refl _ _) q⟩
theorem oi_eq {T : Tb} {K : PySem.W.Frag} (hK : K = T.K) : OpI T (rOr2 (rEqD K) rEq) eqO := by
  intro G H x y v u Q Qv rh rx ry q k
  subst hK
  have gen : eqG x y G Q → rOr2 (rEqD T.K) rEq v u H Qv := fun h => eqG_in rh rx ry h k
  cases rx with
  | str a =>
    have q : eqS a y G Q := q
    cases ry with
    | str b => exact .inr ⟨scal_ss a b, by rw [dec_vs]; exact k _ _ G H (.bl _) rh (Keep.refl _ _) q⟩
    | _ => exact gen q
  | _ => exact gen q
theorem oi_ne {T : Tb} {K : PySem.W.Frag} (hK : K = T.K) : OpI T (rOr2 (rNeD K) rNe) neO := by
  intro G H x y v u Q Qv rh rx ry q k
  subst hK
  have gen : neG x y G Q → rOr2 (rNeD T.K) rNe v u H Qv := fun h => neG_in rh rx ry h k
  cases rx with
  | str a =>
    have q : neS a y G Q := q
    cases ry with
    | str b => exact .inr ⟨scal_ss a b, by rw [dec_vs]; exact k _ _ G H (.bl _) rh (Keep.refl _ _) q⟩
    | _ => exact gen q
  | _ => exact gen q
theorem op_eqO {X : Cx} (hu : X.A.units + 64 < cLine) : OpR X (compareOp .Eq) (rOr2 (rEqD X.K) rEq) := (op_eqD hu).or op_eq
theorem op_neO {X : Cx} (hu : X.A.units + 64 < cLine) : OpR X (compareOp .NotEq) (rOr2 (rNeD X.K) rNe) := (op_neD hu).or op_ne
/-! ### built-in functions -/
def lenO1 (x : D) (G : GH) (Q : DK) : Prop := match x with
  | .str z => z.length ≤ sizeLine ∧ Q (.int z.length) G
  | .tup xs => Q (.int xs.length) G
  | .lst xs => Q (.int xs.length) G
  | .frl xs => Q (.int xs.length) G
  | _ => False
def lenO : OL := fun ds G Q => match ds with
  | [x] => lenO1 (topD G x) G Q
  | _ => False
def rLen (K : PySem.W.Frag) : List V → Hp → VK → Prop := fun xs H Q => ∃ x n, xs = [x] ∧ LenV K x H n ∧ Q (.int n) H
theorem ci_len {T : Tb} {K : PySem.W.Frag} (hK : K = T.K) : CallI T (rLen K) lenO := by
  intro G H ds vs Q Qv rh r q k
  subst hK
  cases r with
  | nil => exact False.elim q
  | cons rx rr =>
    cases rr with
    | cons _ _ => exact False.elim q
    | nil =>
      cases rx with
      | str z => exact ⟨_, z.length, rfl, ⟨q.1, rfl⟩, k _ _ G H (.int _) rh (Keep.refl _ _) q.2⟩
      | tup h _ r => exact ⟨_, _, rfl, .inr ⟨_, h.sq, rfl⟩, k _ _ G H (.int _) rh (Keep.refl _ _) (by rw [← r.length]; exact q)⟩
      | lst g h _ r => exact ⟨_, _, rfl, .inl ⟨_, SqL.of h, rfl⟩, k _ _ G H (.int _) rh (Keep.refl _ _) (by rw [← r.length]; exact q)⟩
      | frl h _ r => exact ⟨_, _, rfl, .inl ⟨_, h.sq, rfl⟩, k _ _ G H (.int _) rh (Keep.refl _ _) (by rw [← r.length]; exact q)⟩
      | ref a =>
        rcases topD_cases G a with e | ⟨ds, g, e⟩
        · have q' : lenO1 (topD G (.ref a)) G Q := q
          rw [e] at q'
          exact False.elim q'
        · have q' : lenO1 (topD G (.ref a)) G Q := q
          rw [e] at q'
          obtain ⟨xs, hx, _, r⟩ := rh a _ g
          exact ⟨_, _, rfl, .inl ⟨_, SqL.of hx, rfl⟩, k _ _ G H (.int _) rh (Keep.refl _ _) (by rw [← r.length]; exact q')⟩
      | _ => exact False.elim q
/-- isinstance by a built-in type -/
def tyO : Option DO → Option String
  | some (.lst _) => some "list"
  | some (.dic _ _) => some "dict"
  | _ => none
def tyD (G : GH) : D → Option String
  | .non => some "NoneType"
  | .bl _ => some "bool"
  | .int _ => some "int"
  | .str _ => some "str"
  | .tup _ => some "tuple"
  | .lst _ => some "list"
  | .frl _ => some "list"
  | .dic _ _ => some "dict"
  | .ref a => tyO (G a)
  | _ => none
def instB (a b : String) : Bool := a == b || (a == "bool" && b == "int")
def tyNames : List String := ["NoneType", "bool", "int", "str", "tuple", "list", "dict"]
def clsNames : List String := ["int", "str", "bool", "tuple", "list", "dict"]
theorem kit_all : ∀ a ∈ tyNames, ∀ b ∈ clsNames, kitB a b = some (instB a b) := by decide +kernel
theorem tyD_mem {G : GH} {x : D} {a : String} (h : tyD G x = some a) : a ∈ tyNames := by
  have key : ∀ {s : String}, s ∈ tyNames → some s = some a → a ∈ tyNames := fun m e => by cases e; exact m
  cases x with
  | ref p =>
    have h : tyO (G p) = some a := h
    cases e : G p with
    | none => rw [e] at h; cases h
    | some o =>
      rw [e] at h
      cases o with
      | lst _ => exact key (by decide) h
      | dic _ _ => exact key (by decide) h
      | ins _ _ => cases h
  | non => exact key (by decide) h
  | bl _ => exact key (by decide) h
  | int _ => exact key (by decide) h
  | str _ => exact key (by decide) h
  | tup _ => exact key (by decide) h
  | lst _ => exact key (by decide) h
  | frl _ => exact key (by decide) h
  | dic _ _ => exact key (by decide) h
  | ty _ => cases h
  | obj _ _ => cases h
theorem tyX_of {T : Tb} {G : GH} {H : Hp} (rh : RH T G H) {x : D} {v : V} (r : RV T G H x v) {a : String} (h : tyD G x = some a) : TyX T.K H v (.type a) := by
  have key : ∀ {s : String}, some s = some a → TyX T.K H v (.type s) → TyX T.K H v (.type a) := fun e x => by cases e; exact x
  cases r with
  | non => exact key h (.base .non)
  | bl b => exact key h (.base (.bl b))
  | int i => exact key h (.base (.int i))
  | str z => exact key h (.base (.str z))
  | tup hx _ r =>
    refine key h ?_
    rcases hx with ⟨_, hx | ⟨o, hx⟩⟩ | ⟨o, _, _, hk, hc, _⟩
    · exact .base (.tup hx)
    · exact .fTuple hx
    · exact .kTuple hk hc
  | lst g hx _ r => exact key h (.base (.lst hx))
  | frl hx _ r =>
    refine key h ?_
    rcases hx with ⟨_, o, hx⟩ | ⟨o, _, _, hk, hc, _⟩
    · exact .base (.frz hx)
    · exact .kList hk hc
  | dic g hx e l r => exact key h (.base (.dK hx))
  | ty _ => cases h
  | obj _ _ _ _ => cases h
  | ref p =>
    have h : tyO (G p) = some a := h
    cases e : G p with
    | none => rw [e] at h; cases h
    | some o =>
      rw [e] at h
      cases o with
      | lst ds =>
        obtain ⟨xs, hx, _⟩ := rh p _ e
        exact key h (.base (.lst hx))
      | dic ks ds =>
        obtain ⟨xs, hx, _⟩ := rh p _ e
        exact key h (.base (.dK hx))
      | ins _ _ => cases h
def isiO (c : String) : OL := fun ds G Q => match ds with
  | [x, .ty n] => n = c ∧ ∃ a, tyD G x = some a ∧ Q (.bl (instB a c)) G
  | _ => False
theorem ci_isi {T : Tb} {K : PySem.W.Frag} (hK : K = T.K) {c : String} (hc : c ∈ clsNames) : CallI T (rIsi K) (isiO c) := by
  intro G H ds vs Q Qv rh r q k
  subst hK
  rcases r with _ | ⟨rx, _ | ⟨rc, _ | ⟨_, _⟩⟩⟩
  · exact False.elim q
  · exact False.elim q
  · cases rc with
    | ty n =>
      obtain ⟨e, a, ha, q⟩ := q
      subst e
      exact ⟨_, _, _, _, _, rfl, .ty _, tyX_of rh rx ha, kit_ty (kit_all a (tyD_mem ha) _ hc), k _ _ G H (.bl _) rh (Keep.refl _ _) q⟩
    | _ => exact False.elim q
  · exact False.elim (by rename_i a b; cases rc <;> exact q)
/-- all, any of a list of bools -/
def blsD : List D → Option (List Bool)
  | [] => some []
  | .bl b :: r => (blsD r).map (b :: ·)
  | _ :: _ => none
theorem bls_rv {T : Tb} {G : GH} {H : Hp} : ∀ {ds : List D} {vs : List V} {bs : List Bool}, RVs T G H ds vs → blsD ds = some bs → vs = bs.map V.bl
  | [], _, bs, .nil, h => by cases h; rfl
  | d :: ds, _, bs, .cons a b, h => by
    cases d with
    | bl x =>
      unfold blsD at h
      cases e : blsD ds with
      | none => rw [e] at h; cases h
      | some cs =>
        rw [e] at h
        cases h
        cases a
        rw [bls_rv b e]
        rfl
    | _ => cases h
def allO (f : List Bool → Bool) : OL := fun ds G Q => match ds with
  | [x] => ∃ xs, topD G x = .lst xs ∧ ∃ bs, blsD xs = some bs ∧ Q (.bl (f bs)) G
  | _ => False
theorem topD_lst {T : Tb} {G : GH} {H : Hp} (rh : RH T G H) {x : D} {v : V} {xs : List D} (r : RV T G H x v) (h : topD G x = .lst xs) : ∃ a vs, v = .ref a ∧ H a = some (.lst vs) ∧ RVs T G H xs vs := by
  cases r with
  | lst g hx _ r => cases h; exact ⟨_, _, rfl, hx, r⟩
  | ref a =>
    rcases topD_cases G a with e | ⟨ds, g, e⟩
    · rw [e] at h; cases h
    · rw [e] at h; cases h
      obtain ⟨vs, hx, _, r⟩ := rh a _ g
      exact ⟨_, _, rfl, hx, r⟩
  | _ => cases h
theorem ci_all {T : Tb} {K : PySem.W.Frag} (hK : K = T.K) : CallI T (rAll K) (allO fun bs => bs.all id) := by
  intro G H ds vs Q Qv rh r q k
  subst hK
  rcases r with _ | ⟨rx, _ | ⟨_, _⟩⟩
  · exact False.elim q
  · obtain ⟨xs, e, bs, hb, q⟩ := q
    obtain ⟨a, us, rfl, hx, r⟩ := topD_lst rh rx e
    have := bls_rv r hb
    subst this
    exact ⟨a, bs, rfl, SqL.of hx, k _ _ G H (.bl _) rh (Keep.refl _ _) q⟩
  · exact False.elim q
theorem ci_any {T : Tb} {K : PySem.W.Frag} (hK : K = T.K) : CallI T (rAny K) (allO fun bs => bs.any id) := by
  intro G H ds vs Q Qv rh r q k
  subst hK
  rcases r with _ | ⟨rx, _ | ⟨_, _⟩⟩
  · exact False.elim q
  · obtain ⟨xs, e, bs, hb, q⟩ := q
    obtain ⟨a, us, rfl, hx, r⟩ := topD_lst rh rx e
    have := bls_rv r hb
    subst this
    exact ⟨a, bs, rfl, SqL.of hx, k _ _ G H (.bl _) rh (Keep.refl _ _) q⟩
  · exact False.elim q
def absO : OL := fun ds G Q => match ds with
  | [.int i] => Q (.int (if i < 0 then -i else i)) G
  | _ => False
theorem ci_abs {T : Tb} : CallI T (fun xs H Q => ∃ i, xs = [.int i] ∧ Q (.int (if i < 0 then -i else i)) H) absO := by
  intro G H ds vs Q Qv rh r q k
  rcases r with _ | ⟨rx, _ | ⟨_, _⟩⟩
  · exact False.elim q
  · cases rx with
    | int i => exact ⟨i, rfl, k _ _ G H (.int _) rh (Keep.refl _ _) q⟩
    | _ => exact False.elim q
  · exact False.elim (by rename_i a b; cases rx <;> exact q)
end DL
set_option Elab.async false
set_option linter.all false
set_option maxRecDepth 100000
set_option maxHeartbeats 4000000
namespace DL
open PySem PySem.Spec PyProof.Rows L2

/-! ### statements -/
def ExOkS (T : Tb) (W : WX) (G : GH) (H : Hp) (ex : Nat → List D → Ev → GH → Prop) : Prop :=
  ∀ c ds env' G' cl dx σ' H', ex c ds env' G' → RX T G' H' c ds cl dx → RS T G' H' env' σ' → RH T G' H' → Keep G H G' H' → W cl dx σ' H'
theorem ExOkS.keep {T : Tb} {W : WX} {G G1 : GH} {H H1 : Hp} {ex : Nat → List D → Ev → GH → Prop} (k : Keep G H G1 H1) (h : ExOkS T W G H ex) : ExOkS T W G1 H1 ex :=
  fun c ds env' G' cl dx σ' H' a b d e f => h c ds env' G' cl dx σ' H' a b d e (k.trans f)
theorem ExOkS.at {T : Tb} {W : WX} {G : GH} {H : Hp} {ex : Nat → List D → Ev → GH → Prop} {env : Ev} {σ : List (Option V)} (h : ExOkS T W G H ex) (rs : RS T G H env σ) : ExOk T W G H σ (fun c ds G' => ex c ds env G') :=
  fun c ds G' cl dx H' a b d e => h c ds env G' cl dx σ H' a b (rs.keep e) d e
/-- the ends of data, as ends of the layer below -/
structure EndsOk (T : Tb) (G : GH) (H : Hp) (De : DEnds) (Dv : Ends) : Prop where
  nx : ∀ env' G' σ' H', RS T G' H' env' σ' → RH T G' H' → Keep G H G' H' → De.nx env' G' → Dv.nx σ' H'
  rt : ∀ d v G' H', RV T G' H' d v → RH T G' H' → Keep G H G' H' → De.rt d G' → Dv.rt v H'
  bk : ∀ env' G' σ' H', RS T G' H' env' σ' → RH T G' H' → Keep G H G' H' → De.bk env' G' → Dv.bk σ' H'
  ct : ∀ env' G' σ' H', RS T G' H' env' σ' → RH T G' H' → Keep G H G' H' → De.ct env' G' → Dv.ct σ' H'
theorem EndsOk.keep {T : Tb} {G G1 : GH} {H H1 : Hp} {De : DEnds} {Dv : Ends} (k : Keep G H G1 H1) (h : EndsOk T G H De Dv) : EndsOk T G1 H1 De Dv :=
  ⟨fun a b c d e f g i => h.nx a b c d e f (k.trans g) i, fun a b c d e f g i => h.rt a b c d e f (k.trans g) i, fun a b c d e f g i => h.bk a b c d e f (k.trans g) i, fun a b c d e f g i => h.ct a b c d e f (k.trans g) i⟩
def liftS (T : Tb) (W : WX) (t : TSd) : TS := fun Dv σ H => ∃ env G De, RS T G H env σ ∧ RH T G H ∧ ExOkS T W G H De.ex ∧ EndsOk T G H De Dv ∧ t De env G
structure QS (T : Tb) (X : Cx) (W : WX) (st : Stmt) (t : TSd) : Prop where
  ps : PS X st (liftS T W t)
structure QSs (T : Tb) (X : Cx) (W : WX) (st : List Stmt) (t : TSd) : Prop where
  pss : PSs X st (liftS T W t)
section
variable {T : Tb} {X : Cx} {W : WX} {st : Stmt} {sts rest : List Stmt} {e a b c : Expr} {es : List Expr} {te ta tb : TEd} {t u : TSd} {pos : Pos}
theorem PS.imp {t0 t1 : TS} (h : PS X st t0) (hi : ∀ D σ H, t1 D σ H → t0 D σ H) : PS X st t1 := ⟨fun pins s σ H D I q => h.run pins s σ H D I (hi D σ H q)⟩
theorem PSs.imp {t0 t1 : TS} (h : PSs X sts t0) (hi : ∀ D σ H, t1 D σ H → t0 D σ H) : PSs X sts t1 := ⟨fun pins s σ H D I q => h.run pins s σ H D I (hi D σ H q)⟩
theorem QS.of {t0 : TS} (h : PS X st t0) (hi : ∀ env G De Dv σ H, RS T G H env σ → RH T G H → ExOkS T W G H De.ex → EndsOk T G H De Dv → t De env G → t0 Dv σ H) : QS T X W st t :=
  ⟨PS.imp h fun D σ H ⟨env, G, De, rs, rh, ex, en, q⟩ => hi env G De D σ H rs rh ex en q⟩
theorem QSs.of {t0 : TS} (h : PSs X sts t0) (hi : ∀ env G De Dv σ H, RS T G H env σ → RH T G H → ExOkS T W G H De.ex → EndsOk T G H De Dv → t De env G → t0 Dv σ H) : QSs T X W sts t :=
  ⟨PSs.imp h fun D σ H ⟨env, G, De, rs, rh, ex, en, q⟩ => hi env G De D σ H rs rh ex en q⟩
def wNext : TSd := fun De env G => De.nx env G
def wSeq (t u : TSd) : TSd := fun De env G => t { De with nx := fun env' G' => u De env' G' } env G
theorem qs_nil : QSs T X W [] wNext := QSs.of pss_nil fun env G De Dv σ H rs rh ex en q => en.nx _ _ _ _ rs rh (Keep.refl _ _) q
theorem qs_cons (h1 : QS T X W st t) (h2 : QSs T X W rest u) : QSs T X W (st :: rest) (wSeq t u) :=
  QSs.of (pss_cons h1.ps h2.pss) fun env G De Dv σ H rs rh ex en q => ⟨env, G, { De with nx := fun env' G' => u De env' G' }, rs, rh, ex,
    ⟨fun env' G' σ' H' r1 r2 k q' => ⟨env', G', De, r1, r2, ex.keep k, en.keep k, q'⟩, en.rt, en.bk, en.ct⟩, q⟩
theorem qs_one (h1 : QS T X W st t) : QSs T X W [st] t := ⟨pss_one h1.ps⟩
def wBreak : TSd := fun De env G => De.bk env G
def wCont : TSd := fun De env G => De.ct env G
theorem q_pass : QS T X W (.Pass pos) wNext := QS.of ps_pass fun env G De Dv σ H rs rh ex en q => en.nx _ _ _ _ rs rh (Keep.refl _ _) q
theorem q_break : QS T X W (.Break pos) wBreak := QS.of ps_break fun env G De Dv σ H rs rh ex en q => en.bk _ _ _ _ rs rh (Keep.refl _ _) q
theorem q_continue : QS T X W (.Continue pos) wCont := QS.of ps_continue fun env G De Dv σ H rs rh ex en q => en.ct _ _ _ _ rs rh (Keep.refl _ _) q
theorem q_doc {x j pos'} : QS T X W (.Expr (.Constant (.str x) j pos) pos') wNext := QS.of ps_doc fun env G De Dv σ H rs rh ex en q => en.nx _ _ _ _ rs rh (Keep.refl _ _) q
def wExpr (te : TEd) : TSd := fun De env G => te env G (fun _ G1 => De.nx env G1) (fun c ds G' => De.ex c ds env G')
theorem q_expr (he : QE T X W e te) (hs : swapsWith e none pos.line X.env = pure false := by rfl) : QS T X W (.Expr e pos) (wExpr te) :=
  QS.of (ps_expr he.pe hs) fun env G De Dv σ H rs rh ex en q => intoE rs rh (ex.at rs) q fun d v G1 H1 rd rh1 k1 q1 => en.nx _ _ _ _ (rs.keep k1) rh1 k1 q1
def wRet (te : TEd) : TSd := fun De env G => te env G De.rt (fun c ds G' => De.ex c ds env G')
theorem q_ret (he : QE T X W e te) : QS T X W (.Return (some e) pos) (wRet te) :=
  QS.of (ps_ret he.pe) fun env G De Dv σ H rs rh ex en q => intoE rs rh (ex.at rs) q fun d v G1 H1 rd rh1 k1 q1 => en.rt _ _ _ _ rd rh1 k1 q1
def wRetN : TSd := fun De _ G => De.rt .non G
theorem q_retN : QS T X W (.Return none pos) wRetN := QS.of ps_retN fun env G De Dv σ H rs rh ex en q => en.rt _ _ _ _ .non rh (Keep.refl _ _) q
def wIfS (tc : TTd) (t u : TSd) : TSd := fun De env G => tc env G (fun b G1 => if b = true then t De env G1 else u De env G1) (fun c ds G' => De.ex c ds env G')
theorem q_if {c : Expr} {a b : List Stmt} {tc : TTd} (hc : QT T X W c tc) (ha : QSs T X W a t) (hb : QSs T X W b u) : QS T X W (.If c a b pos) (wIfS tc t u) :=
  QS.of (ps_if hc.pt ha.pss hb.pss) fun env G De Dv σ H rs rh ex en q => intoT rs rh (ex.at rs) q fun b G1 H1 rh1 k1 q1 => by
    cases b with
    | true =>
      rw [if_pos rfl] at q1 ⊢
      exact ⟨env, G1, De, rs.keep k1, rh1, ex.keep k1, en.keep k1, q1⟩
    | false =>
      rw [if_neg Bool.false_ne_true] at q1 ⊢
      exact ⟨env, G1, De, rs.keep k1, rh1, ex.keep k1, en.keep k1, q1⟩
/-! ### targets -/
abbrev TGd := D → Ev → GH → (Ev → GH → Prop) → DX → Prop
def liftG (T : Tb) (W : WX) (t : TGd) : TG := fun v σ H Qg => ∃ d env G Q Ex, RV T G H d v ∧ RS T G H env σ ∧ RH T G H ∧ ExOk T W G H σ Ex ∧ t d env G Q Ex ∧ ∀ env' G' σ' H', RS T G' H' env' σ' → RH T G' H' → Keep G H G' H' → Q env' G' → Qg σ' H'
structure QG (T : Tb) (X : Cx) (W : WX) (tg : Expr) (t : TGd) : Prop where
  pg : PG X tg (liftG T W t)
theorem PG.imp {tg : Expr} {t0 t1 : TG} (h : PG X tg t0) (hi : ∀ v σ H Q, t1 v σ H Q → t0 v σ H Q) : PG X tg t1 := ⟨fun pins s σ H v u Q I r q => h.run pins s σ H v u Q I r (hi v σ H Q q)⟩
def gdName (i : Nat) : TGd := fun d env G Q _ => Q (env.set i (some d)) G
theorem qg_name {i : Nat} {x : Str} (hN : X.N.Nodup) (hi : X.N[i]? = some x) (hx : Loc X.env.scope x) (hf : X.fn x = true ∨ X.env.scope.names.lookup x = some .local := by first | exact .inl rfl | exact .inr rfl | assumption) : QG T X W (.Name x pos) (gdName i) :=
  ⟨PG.imp (pg_name hN hi hx hf) fun v σ H Qg ⟨d, env, G, Q, Ex, rd, rs, rh, ex, q, k⟩ => k _ G _ H (rs.set i rd) rh (Keep.refl _ _) q⟩
abbrev TGsd := List D → Ev → GH → (Ev → GH → Prop) → DX → Prop
def liftGs (T : Tb) (W : WX) (t : TGsd) : TGs := fun vs σ H Qg => ∃ ds env G Q Ex, RVs T G H ds vs ∧ RS T G H env σ ∧ RH T G H ∧ ExOk T W G H σ Ex ∧ t ds env G Q Ex ∧ ∀ env' G' σ' H', RS T G' H' env' σ' → RH T G' H' → Keep G H G' H' → Q env' G' → Qg σ' H'
structure QGs (T : Tb) (X : Cx) (W : WX) (tgs : List Expr) (t : TGsd) : Prop where
  pgs : PGs X tgs (liftGs T W t)
theorem PGs.imp {tgs : List Expr} {t0 t1 : TGs} (h : PGs X tgs t0) (hi : ∀ v σ H Q, t1 v σ H Q → t0 v σ H Q) : PGs X tgs t1 := ⟨fun pins s σ H v u Q I r q => h.run pins s σ H v u Q I r (hi v σ H Q q)⟩
def gdNil : TGsd := fun ds env G Q _ => ds = [] ∧ Q env G
/-- the first target is a name -/
def gdConsN (i : Nat) (u : TGsd) : TGsd := fun ds env G Q Ex => ∃ d r, ds = d :: r ∧ u r (env.set i (some d)) G Q Ex
theorem qgs_nil : QGs T X W [] gdNil := ⟨PGs.imp pgs_nil fun vs σ H Qg ⟨ds, env, G, Q, Ex, rd, rs, rh, ex, ⟨e, q⟩, k⟩ => by
  subst e
  cases rd
  exact ⟨rfl, k env G σ H rs rh (Keep.refl _ _) q⟩⟩
theorem qgs_name {i : Nat} {x : Str} {p : Pos} {u : TGsd} (hN : X.N.Nodup) (hi : X.N[i]? = some x) (hx : Loc X.env.scope x) (h2 : QGs T X (fun _ _ _ _ => False) es u) (hs : (assignEach (.Name x p :: es) X.env).map (·.2) = assign (.Name x p) X.env :: (assignEach es X.env).map (·.2) := by rfl)
    (hf : X.fn x = true ∨ X.env.scope.names.lookup x = some .local := by first | exact .inl rfl | exact .inr rfl | assumption) : QGs T X W (.Name x p :: es) (fun ds env G Q _ => gdConsN i u ds env G Q (fun _ _ _ => False)) :=
  ⟨PGs.imp (pgs_cons (pg_name hN hi hx hf) h2.pgs hs) fun vs σ H Qg ⟨ds, env, G, Q, Ex, rd, rs, rh, ex, ⟨d, r, e, q⟩, k⟩ => by
    subst e
    cases rd with
    | cons r1 r2 => exact ⟨_, _, rfl, r, env.set i (some d), G, Q, fun _ _ _ => False, r2, rs.set i r1, rh, fun _ _ _ _ _ _ z => z.elim, q, k⟩⟩
def gdTup (n : Nat) (u : TGsd) : TGd := fun d env G Q Ex => ∃ ds, d = .tup ds ∧ ds.length = n ∧ u ds env G Q Ex
theorem qg_tup {k n : Nat} {u : TGsd} (hK : X.K = T.K) (hc : X.calm = true) (h : QGs T X W es u) (hn : (assignEach es X.env).length = n := by rfl) (hst : (assignEach es X.env).findIdx? (·.1) = none := by rfl) : QG T X W (.Tuple es k pos) (gdTup n u) :=
  ⟨PG.imp (pg_tup hc h.pgs hn hst) fun v σ H Qg ⟨d, env, G, Q, Ex, rd, rs, rh, ex, ⟨ds, e, l, q⟩, kk⟩ => by
    subst e
    cases rd with
    | tup hx _ r =>
      rw [hK]
      exact ⟨_, _, rfl, hx.sq, by rw [← r.length]; exact l, ds, env, G, Q, Ex, r, rs, rh, ex, q, kk⟩⟩
def wAsg (te : TEd) (g : TGd) : TSd := fun De env G => te env G (fun d G1 => g d env G1 De.nx (fun c ds G' => De.ex c ds env G')) (fun c ds G' => De.ex c ds env G')
theorem q_asg {tg e : Expr} {te : TEd} {g : TGd} (he : QE T X W e te) (hg : QG T X W tg g) (hs : swapsWithSole [tg] e pos.line X.env = pure false := by rfl) (hw : swappedStores [tg] e X.env = pure none := by rfl)
    (h1 : (assignEach [tg] X.env).map (·.2) = [assign tg X.env] := by rfl) : QS T X W (.Assign [tg] e pos) (wAsg te g) :=
  QS.of (ps_asg he.pe hg.pg hs hw h1) fun env G De Dv σ H rs rh ex en q => intoE rs rh (ex.at rs) q fun d v G1 H1 rd rh1 k1 q1 =>
    ⟨d, env, G1, _, _, rd, rs.keep k1, rh1, (ex.at rs).keep k1, q1, fun env' G' σ' H' a b c d => en.nx _ _ _ _ a b (k1.trans c) d⟩
def wSet (i : Nat) (te : TEd) : TSd := fun De env G => te env G (fun d G1 => De.nx (env.set i (some d)) G1) (fun c ds G' => De.ex c ds env G')
theorem q_set {i : Nat} {x : Str} {pos' : Pos} (hN : X.N.Nodup) (hi : X.N[i]? = some x) (hx : Loc X.env.scope x) (he : QE T X W e te) (hs : swapsWith e (some (.Name x pos')) pos.line X.env = pure false := by rfl) (hf : X.fn x = true ∨ X.env.scope.names.lookup x = some .local := by first | exact .inl rfl | exact .inr rfl | assumption) :
    QS T X W (.Assign [.Name x pos'] e pos) (wSet i te) :=
  QS.of (ps_set hN hi hx he.pe hs hf) fun env G De Dv σ H rs rh ex en q => intoE rs rh (ex.at rs) q fun d v G1 H1 rd rh1 k1 q1 => en.nx _ _ _ _ ((rs.keep k1).set i rd) rh1 k1 q1
/-- a, b = x, y with plain local names -/
def wPar (i j : Nat) (ta : TAd) : TSd := fun De env G => ta env G (fun ds G1 => ∃ d e, ds = [d, e] ∧ De.nx ((env.set i (some d)).set j (some e)) G1) (fun c ds G' => De.ex c ds env G')
theorem q_par {i j : Nat} {x y : Str} {u : TAd} {px py pt : Pos} {kt k2 pt2} (hc : X.calm = true) (hN : X.N.Nodup) (hi : X.N[i]? = some x) (hj : X.N[j]? = some y) (hij : i ≠ j)
    (hx : X.env.scope.names.lookup x = some .local) (hy : X.env.scope.names.lookup y = some .local) (ha : QA T X W [a, b] u)
    (hw : swappedStores [.Tuple [.Name x px, .Name y py] kt pt] (.Tuple [a, b] k2 pt2) X.env = pure (some [x, y]))
    (hs : swapsWithSole [.Tuple [.Name x px, .Name y py] kt pt] (.Tuple [a, b] k2 pt2) pos.line X.env = pure false := by rfl) :
    QS T X W (.Assign [.Tuple [.Name x px, .Name y py] kt pt] (.Tuple [a, b] k2 pt2) pos) (wPar i j u) :=
  QS.of (ps_par hc hN hi hj hij hx hy ha.pa hw hs) fun env G De Dv σ H rs rh ex en q => intoA rs rh (ex.at rs) q fun ds vs G1 H1 rd rh1 k1 ⟨d, e, eq, q1⟩ => by
    subst eq
    cases rd with
    | cons r1 r2 =>
      cases r2 with
      | cons r2 r3 =>
        cases r3
        exact ⟨_, _, rfl, en.nx _ _ _ _ (((rs.keep k1).set i r1).set j r2) rh1 k1 q1⟩
/-! ### o[i] = v, o[i] op= v, name op= v -/
def setO (o i v : D) (G : GH) (Q : GH → Prop) : Prop := ∃ a ds k j, o = .ref a ∧ i = .int k ∧ G a = some (.lst ds) ∧ ixN ds.length k = some j ∧ Q (gset G a (.lst (ds.set j v)))
theorem set_in {G : GH} {H : Hp} {o i v : D} {ov iv vv : V} (rh : RH T G H) (ro : RV T G H o ov) (ri : RV T G H i iv) (rv : RV T G H v vv) {Q : GH → Prop} {Qv : Hp → Prop} (h : setO o i v G Q)
    (k : ∀ G' H', RH T G' H' → Keep G H G' H' → Q G' → Qv H') : rSetL ov iv vv H Qv := by
  obtain ⟨p, ds, n, j, e1, e2, hg, hj, q⟩ := h
  subst e1 e2
  cases ro
  cases ri
  obtain ⟨xs, hx, l, r⟩ := rh p _ hg
  refine ⟨p, xs, n, j, rfl, rfl, hx, by rw [← r.length]; exact hj, k _ _ (rh.put (d := .lst (ds.set j v)) hg ⟨xs.set j vv, upd_same, by rw [List.length_set]; exact l, (r.set rv j).keep (Keep.put hg)⟩) (Keep.put hg) q⟩
def wSetI (te to ti : TEd) : TSd := fun De env G => te env G (fun d G1 => to env G1 (fun o G2 => ti env G2 (fun i G3 => setO o i d G3 (fun G4 => De.nx env G4)) (fun c ds G' => De.ex c ds env G')) (fun c ds G' => De.ex c ds env G')) (fun c ds G' => De.ex c ds env G')
theorem q_setI {o i : Expr} {to ti : TEd} {pos' : Pos} (he : QE T X W e te) (ho : QE T X W o to) (hi : QE T X W i ti)
    (ha : ∀ v, assign (.Subscript o i pos') X.env v = (do let ov ← holding [v] (eval o X.env); let iv ← holding [v, ov] (eval i X.env); standAt pos'; holding [v, ov, iv] (setItem ov iv v); release [v, ov, iv] []) := by intro _; rfl)
    (hs : swapsWithSole [.Subscript o i pos'] e pos.line X.env = pure false := by rfl) (hw : swappedStores [.Subscript o i pos'] e X.env = pure none := by rfl)
    (h1 : (assignEach [.Subscript o i pos'] X.env).map (·.2) = [assign (.Subscript o i pos') X.env] := by rfl) : QS T X W (.Assign [.Subscript o i pos'] e pos) (wSetI te to ti) :=
  QS.of (ps_asg he.pe (pg_sub ho.pe hi.pe set_list ha) hs hw h1) fun env G De Dv σ H rs rh ex en q => intoE rs rh (ex.at rs) q fun d v G1 H1 rd rh1 k1 q1 =>
    intoE (rs.keep k1) rh1 ((ex.at rs).keep k1) q1 fun o' ov G2 H2 ro rh2 k2 q2 => intoE ((rs.keep k1).keep k2) rh2 (((ex.at rs).keep k1).keep k2) q2 fun i' iv G3 H3 ri rh3 k3 q3 =>
      set_in rh3 (ro.keep k3) ri ((rd.keep k2).keep k3) q3 fun G4 H4 rh4 k4 q4 => en.nx _ _ _ _ (rs.keep (((k1.trans k2).trans k3).trans k4)) rh4 (((k1.trans k2).trans k3).trans k4) q4
/-- a list's item, by values -/
def rGetL (K : PySem.W.Frag) : V → V → Hp → VK → Prop := fun o i H Q => ∃ p xs k v, o = .ref p ∧ i = .int k ∧ 0 ≤ k ∧ SqL K H p xs ∧ xs[k.toNat]? = some v ∧ Q v H
theorem get_list : PGet X (rGetL X.K) := by
  intro pins s σ H o i ov iv Q I ro ri h
  obtain ⟨p, xs, k, v, rfl, rfl, h0, hq, hx, q⟩ := h
  cases ro
  obtain ⟨t, rfl⟩ := ri
  obtain ⟨its, r, pl, hz⟩ := I.list hq
  obtain ⟨u, hu, ru⟩ := r.get hx
  have hl := r.length
  have h63 := line63
  have hlt : k.toNat < xs.length := (List.getElem?_eq_some_iff.mp hx).1
  exact wpAny_getItem_list pl.isList h0 (by omega) (by simpa using hu) ⟨v, H, I, ru, q⟩
/-- the item that an augmented store reads -/
def augAt (o i : D) (G : GH) (K : D → Prop) : Prop := ∃ a ds k d, o = .ref a ∧ i = .int k ∧ 0 ≤ k ∧ G a = some (.lst ds) ∧ ds[k.toNat]? = some d ∧ K d
def wAugI (op : O2) (to ti te : TEd) : TSd := fun De env G => to env G (fun o G1 => ti env G1 (fun i G2 => augAt o i G2 fun d =>
  te env G2 (fun y G3 => op d y G3 (fun z G4 => setO o i z G4 (fun G5 => De.nx env G5))) (fun c ds G' => De.ex c ds env G')) (fun c ds G' => De.ex c ds env G')) (fun c ds G' => De.ex c ds env G')
theorem q_augI {o i : Expr} {to ti : TEd} {tpos : Pos} {op : Operator} {ip : TIp} {o2 : O2} (hK : X.K = T.K) (ho : QE T X W o to) (hi : QE T X W i ti) (he : QE T X W e te) (hp : PIp X op ip) (oi : OpI T ip o2)
    (ha : ∀ ov iv new, augStore i ov iv new = (do holding [new, ov, iv] (setItem ov iv new); release [new, ov, iv] []; pure .next) := by intros; rfl) : QS T X W (.AugAssign (.Subscript o i tpos) op e pos) (wAugI o2 to ti te) :=
  QS.of (ps_augS ho.pe hi.pe get_list he.pe hp set_list ha) fun env G De Dv σ H rs rh ex en q => intoE rs rh (ex.at rs) q fun o' ov G1 H1 ro rh1 k1 q1 =>
    intoE (rs.keep k1) rh1 ((ex.at rs).keep k1) q1 fun i' iv G2 H2 ri rh2 k2 q2 => by
      obtain ⟨p, ds, n, d, e1, e2, h0, hg, hd, q2⟩ := q2
      subst e1 e2
      cases ro
      cases ri
      obtain ⟨xs, hx, _, r⟩ := rh2 p _ hg
      obtain ⟨v, hv, rd⟩ := r.get hd
      refine ⟨p, xs, n, v, rfl, rfl, h0, SqL.of hx, hv, ?_⟩
      have k12 := k1.trans k2
      refine intoE (rs.keep k12) rh2 ((ex.at rs).keep k12) q2 fun y yv G3 H3 ry rh3 k3 q3 => ?_
      refine oi G3 H3 d y v yv _ _ rh3 (rd.keep k3) ry q3 fun z zv G4 H4 rz rh4 k4 q4 => ?_
      exact set_in rh4 (.ref p) (.int n) rz q4 fun G5 H5 rh5 k5 q5 => en.nx _ _ _ _ (rs.keep (((k12.trans k3).trans k4).trans k5)) rh5 (((k12.trans k3).trans k4).trans k5) q5
def wAug (i : Nat) (op : O2) (te : TEd) : TSd := fun De env G => ∃ x, lk env i = some x ∧ te env G (fun y G1 => op x y G1 (fun z G2 => De.nx (env.set i (some z)) G2)) (fun c ds G' => De.ex c ds env G')
theorem q_aug {i : Nat} {x : Str} {op : Operator} {ip : TIp} {o2 : O2} {pos' : Pos} (hN : X.N.Nodup) (hi : X.N[i]? = some x) (hx : Loc X.env.scope x) (he : QE T X W e te) (hp : PIp X op ip) (oi : OpI T ip o2) (hf : X.fn x = true ∨ X.env.scope.names.lookup x = some .local := by first | exact .inl rfl | exact .inr rfl | assumption) :
    QS T X W (.AugAssign (.Name x pos') op e pos) (wAug i o2 te) :=
  QS.of (ps_aug hN hi hx he.pe hp hf) fun env G De Dv σ H rs rh ex en ⟨d, e, q⟩ => by
    obtain ⟨v, h1, h2⟩ := rs.2 i d (lk_eq _ _ _ e)
    refine ⟨v, h1, intoE rs rh (ex.at rs) q fun y yv G1 H1 ry rh1 k1 q1 => ?_⟩
    exact oi G1 H1 d y v yv _ _ rh1 (h2.keep k1) ry q1 fun z zv G2 H2 rz rh2 k2 q2 => en.nx _ _ _ _ ((rs.keep (k1.trans k2)).set i rz) rh2 (k1.trans k2) q2
theorem oi_ipI {f : Int → Int → Int} : OpI T (ipI f) (int0 fun i j => .int (f i j)) := by
  intro G H x y v u Q Qv rh rx ry q k
  cases rx with
  | int i =>
    cases ry with
    | int j => exact ⟨i, j, rfl, rfl, k _ _ G H (.int _) rh (Keep.refl _ _) q⟩
    | _ => exact False.elim q
  | _ => cases ry <;> exact False.elim q
/-! ### loops -/
def wWhile (tc : TTd) (t : TSd) : TSd := fun De env G => ∃ J : Nat → Ev → GH → Prop, (∃ m, J m env G) ∧ ∀ m env G, J m env G →
  tc env G (fun b G1 => if b = true then t { De with nx := fun env' G' => ∃ m', m' < m ∧ J m' env' G', ct := fun env' G' => ∃ m', m' < m ∧ J m' env' G', bk := De.nx } env G1 else De.nx env G1) (fun c ds G' => De.ex c ds env G')
theorem q_while {c : Expr} {body : List Stmt} {tc : TTd} (hp : PassesOwn (model X.prog X.w) X.A X.env X.xe) (hc : QT T X W c tc) (hb : QSs T X W body t) : QS T X W (.While c body [] pos) (wWhile tc t) :=
  QS.of (ps_while hp hc.pt hb.pss) fun env0 G0 De Dv σ0 H0 rs0 rh0 ex en ⟨J, ⟨m0, j0⟩, turn⟩ => by
    refine ⟨fun m σ H => ∃ env G, RS T G H env σ ∧ RH T G H ∧ Keep G0 H0 G H ∧ J m env G, ⟨m0, env0, G0, rs0, rh0, Keep.refl _ _, j0⟩, ?_⟩
    rintro m σ H ⟨env, G, rs, rh, k, j⟩
    refine intoT rs rh ((ex.keep k).at rs) (turn m env G j) fun b G1 H1 rh1 k1 q1 => ?_
    cases b with
    | false =>
      rw [if_neg Bool.false_ne_true] at q1 ⊢
      exact en.nx _ _ _ _ (rs.keep k1) rh1 (k.trans k1) q1
    | true =>
      rw [if_pos rfl] at q1 ⊢
      refine ⟨fun σ' H' => ∃ m', m' < m ∧ ∃ env G, RS T G H' env σ' ∧ RH T G H' ∧ Keep G0 H0 G H' ∧ J m' env G, fun σ' H' z => z, env, G1, { De with nx := fun env' G' => ∃ m', m' < m ∧ J m' env' G', ct := fun env' G' => ∃ m', m' < m ∧ J m' env' G', bk := De.nx }, rs.keep k1, rh1, ex.keep (k.trans k1), ?_, q1⟩
      exact ⟨fun env' G' σ' H' a b c ⟨m', l, d⟩ => ⟨m', l, env', G', a, b, (k.trans k1).trans c, d⟩, fun d v G' H' a b c e => en.rt _ _ _ _ a b ((k.trans k1).trans c) e,
        fun env' G' σ' H' a b c d => en.nx _ _ _ _ a b ((k.trans k1).trans c) d, fun env' G' σ' H' a b c ⟨m', l, d⟩ => ⟨m', l, env', G', a, b, (k.trans k1).trans c, d⟩⟩
end
end DL
set_option Elab.async false
set_option linter.all false
set_option maxRecDepth 100000
set_option maxHeartbeats 4000000
namespace DL
open PySem PySem.Spec PyProof.Rows L2

/-! ### what is walked -/
/-- the source J yields ds, as long as stay holds -/
structure SrcOk (T : Tb) (G0 : GH) (H0 : Hp) (J : It) (ds : List D) (stay : GH → Prop) : Prop where
  len : ds.length ≤ sizeLine
  go : ∀ G H, Keep G0 H0 G H → RH T G H → stay G → ∀ i, i < ds.length → J.go i H
  yld : ∀ G H, Keep G0 H0 G H → RH T G H → stay G → ∀ i d x H', ds[i]? = some d → J.yld i H x H' → RV T G H' d x ∧ RH T G H' ∧ Keep G H G H'
  stop : ∀ G H, Keep G0 H0 G H → RH T G H → stay G → ∀ i, ds.length ≤ i → J.stop i H
abbrev TId := Ev → GH → (List D → (GH → Prop) → GH → Prop) → DX → Prop
def liftI (T : Tb) (W : WX) (t : TId) : TI := fun σ H R => ∃ env G Q Ex, RS T G H env σ ∧ RH T G H ∧ ExOk T W G H σ Ex ∧ t env G Q Ex ∧
  ∀ J ds stay G' H', RH T G' H' → Keep G H G' H' → SrcOk T G' H' J ds stay → Q ds stay G' → R J H'
structure QI (T : Tb) (X : Cx) (W : WX) (tg iter : Expr) (t : TId) : Prop where
  pi : PI X tg iter (liftI T W t)
theorem set_none_none (σ : List (Option V)) (i j : Nat) : (σ.set i none).set j none = (σ.set j none).set i none := by
  by_cases h : i = j
  · rw [h]
  · exact List.set_comm _ _ h
theorem wipe_set (σ : List (Option V)) (i : Nat) : ∀ vs : List Nat, wipe (σ.set i none) vs = (wipe σ vs).set i none
  | [] => rfl
  | v :: vs => by
    show (wipe (σ.set i none) vs).set v none = ((wipe σ vs).set v none).set i none
    rw [wipe_set σ i vs, set_none_none]
theorem wipe_wipe (σ : List (Option V)) : ∀ vs : List Nat, wipe (wipe σ vs) vs = wipe σ vs
  | [] => rfl
  | v :: vs => by
    show (wipe ((wipe σ vs).set v none) vs).set v none = (wipe σ vs).set v none
    rw [wipe_set, wipe_wipe σ vs, List.set_set]
theorem wipe_mem (σ : List (Option V)) (i : Nat) (x : Option V) : ∀ vs : List Nat, i ∈ vs → wipe (σ.set i x) vs = wipe σ vs
  | [], h => nomatch h
  | v :: vs, h => by
    show (wipe (σ.set i x) vs).set v none = (wipe σ vs).set v none
    by_cases hm : i ∈ vs
    · rw [wipe_mem σ i x vs hm]
    · have e : i = v := by
        rcases List.mem_cons.mp h with e | e
        · exact e
        · exact absurd e hm
      subst e
      exact wipe_last σ i x vs
where
  wipe_last (σ : List (Option V)) (i : Nat) (x : Option V) : ∀ vs : List Nat, (wipe (σ.set i x) vs).set i none = (wipe σ vs).set i none
    | [] => by show (σ.set i x).set i none = σ.set i none; rw [List.set_set]
    | v :: vs => by
      show ((wipe (σ.set i x) vs).set v none).set i none = ((wipe σ vs).set v none).set i none
      by_cases h : v = i
      · subst h
        rw [List.set_set, List.set_set]
        exact wipe_last σ v x vs
      · rw [List.set_comm _ _ h, wipe_last σ i x vs, List.set_comm _ _ (Ne.symm h)]
section
variable {T : Tb} {X : Cx} {W : WX} {tg e a b : Expr} {es : List Expr} {te ta tb : TEd} {pos p : Pos}
theorem PI.imp {iter : Expr} {t0 t1 : TI} (h : PI X tg iter t0) (hi : ∀ σ H R, t1 σ H R → t0 σ H R) : PI X tg iter t1 := ⟨fun pins s σ H R I q => h.run pins s σ H R I (hi σ H R q)⟩
def always : GH → Prop := fun _ => True
/-- over a list (also one that may change, which does not change meanwhile) -/
def itO (d : D) (G1 : GH) (Q : List D → (GH → Prop) → GH → Prop) : Prop := match d with
  | .lst ds => Q ds always G1
  | .frl ds => Q ds always G1
  | .ref a => ∃ ds, G1 a = some (.lst ds) ∧ Q ds (fun G => G a = some (.lst ds)) G1
  | _ => False
def wiLst (te : TEd) : TId := fun env G Q Ex => te env G (fun d G1 => itO d G1 Q) Ex
theorem src_list {K : PySem.W.Frag} {G0 : GH} {H0 : Hp} {a : Addr} {xs : List V} {ds : List D} {stay : GH → Prop} (hl : ds.length ≤ sizeLine)
    (h : ∀ G H, Keep G0 H0 G H → RH T G H → stay G → ∃ xs, SqL K H a xs ∧ RVs T G H ds xs) : SrcOk T G0 H0 (Itl K a) ds stay := by
  refine ⟨hl, fun G H k rh st i hi => ?_, fun G H k rh st i d x H' hd hy => ?_, fun G H k rh st i hi => ?_⟩
  · obtain ⟨xs, h1, r⟩ := h G H k rh st
    obtain ⟨v, hv, _⟩ := r.get (i := i) (d := ds[i]) (List.getElem?_eq_getElem hi)
    exact ⟨xs, v, h1, hv⟩
  · obtain ⟨xs, h1, r⟩ := h G H k rh st
    obtain ⟨v, hv, rv⟩ := r.get hd
    obtain ⟨e, hy⟩ := hy
    subst e
    have := hy xs h1
    rw [hv] at this
    cases this
    exact ⟨rv, rh, Keep.refl _ _⟩
  · obtain ⟨xs, h1, r⟩ := h G H k rh st
    exact ⟨xs, h1, by rw [← r.length]; exact hi⟩
theorem src_tup {K : PySem.W.Frag} {G0 : GH} {H0 : Hp} {a : Addr} {xs : List V} {ds : List D} {stay : GH → Prop} (hl : ds.length ≤ sizeLine)
    (h : ∀ G H, Keep G0 H0 G H → RH T G H → stay G → ∃ xs, SqT K H a xs ∧ RVs T G H ds xs) : SrcOk T G0 H0 (Itt K a) ds stay := by
  refine ⟨hl, fun G H k rh st i hi => ?_, fun G H k rh st i d x H' hd hy => ?_, fun G H k rh st i hi => ?_⟩
  · obtain ⟨xs, h1, r⟩ := h G H k rh st
    obtain ⟨v, hv, _⟩ := r.get (i := i) (d := ds[i]) (List.getElem?_eq_getElem hi)
    exact ⟨xs, v, h1, hv⟩
  · obtain ⟨xs, h1, r⟩ := h G H k rh st
    obtain ⟨v, hv, rv⟩ := r.get hd
    obtain ⟨e, hy⟩ := hy
    subst e
    have := hy xs h1
    rw [hv] at this
    cases this
    exact ⟨rv, rh, Keep.refl _ _⟩
  · obtain ⟨xs, h1, r⟩ := h G H k rh st
    exact ⟨xs, h1, by rw [← r.length]; exact hi⟩
theorem qi_lst (he : QE T X W e te) (hK : X.K = T.K) : QI T X W tg e (wiLst te) :=
  ⟨PI.imp (pi_list he.pe) fun σ H R ⟨env, G, Q, Ex, rs, rh, ex, q, k⟩ => intoE rs rh ex q fun d v G1 H1 rd rh1 k1 q1 => by
    rw [hK]
    cases rd with
    | lst g hx l r => exact ⟨_, rfl, ⟨_, SqL.of hx⟩, k _ _ always _ _ rh1 k1 (src_list (xs := []) l fun G H kk _ _ => ⟨_, SqL.of (kk _ _ g hx).1, r.keep kk⟩) q1⟩
    | frl hx l r => exact ⟨_, rfl, ⟨_, hx.sq⟩, k _ _ always _ _ rh1 k1 (src_list (xs := []) l fun G H kk _ _ => ⟨_, (kk.fzL hx).sq, r.keep kk⟩) q1⟩
    | ref a =>
      obtain ⟨ds, g, q1⟩ := q1
      obtain ⟨xs, hx, l, r⟩ := rh1 a _ g
      exact ⟨_, rfl, ⟨_, SqL.of hx⟩, k _ _ (fun G => G a = some (.lst ds)) _ _ rh1 k1 (src_list (xs := []) l fun G H kk rhh st => let ⟨ys, hy, _, r'⟩ := rhh a _ st; ⟨ys, SqL.of hy, r'⟩) q1⟩
    | _ => exact False.elim q1⟩
def wiTup (te : TEd) : TId := fun env G Q Ex => te env G (fun d G1 => ∃ ds, d = .tup ds ∧ Q ds always G1) Ex
theorem qi_tup (he : QE T X W e te) (hK : X.K = T.K) : QI T X W tg e (wiTup te) :=
  ⟨PI.imp (pi_tup he.pe) fun σ H R ⟨env, G, Q, Ex, rs, rh, ex, q, k⟩ => intoE rs rh ex q fun d v G1 H1 rd rh1 k1 ⟨ds, e, q1⟩ => by
    rw [hK]
    subst e
    cases rd with
    | tup hx l r => exact ⟨_, rfl, ⟨_, hx.sq⟩, k _ _ always _ _ rh1 k1 (src_tup (xs := []) l fun G H kk _ _ => ⟨_, (kk.fzT hx).sq, r.keep kk⟩) q1⟩⟩
def rangeD (n : Nat) : List D := (List.range n).map fun (i : Nat) => D.int (i : Int)
theorem rangeD_get {n i : Nat} {d : D} (h : (rangeD n)[i]? = some d) : i < n ∧ d = .int i := by
  unfold rangeD at h
  rw [List.getElem?_map] at h
  by_cases hi : i < n
  · rw [List.getElem?_range hi] at h
    cases h
    exact ⟨hi, rfl⟩
  · rw [List.getElem?_eq_none (by simp; omega)] at h
    cases h
theorem rangeD_len (n : Nat) : (rangeD n).length = n := by unfold rangeD; simp
def wiRange (ta : TAd) : TId := fun env G Q Ex => ta env G (fun ds G1 => ∃ j : Int, ds = [.int j] ∧ -16777216 ≤ j ∧ j ≤ 16777216 ∧ Q (rangeD j.toNat) always G1) Ex
theorem qi_range {u : TAd} (hg : Gl X "range") (hm : X.mg "range" = none) (ha : QA T X W [a] u) (hs : starEach [a] X.env = [(false, eval a X.env)] := by rfl) : QI T X W tg (.Call (.Name "range" p) [a] [] pos) (wiRange u) :=
  ⟨PI.imp (pi_range1 hg hm ha.pa hs) fun σ H R ⟨env, G, Q, Ex, rs, rh, ex, q, k⟩ => intoA rs rh ex q fun ds vs G1 H1 rd rh1 k1 ⟨j, e, hj0, hj, q1⟩ => by
    subst e
    cases rd with
    | cons r1 r2 =>
      cases r2
      cases r1
      · refine ⟨j, rfl, by omega, by omega, k _ _ always _ _ rh1 k1 ⟨?_, fun G H _ _ _ i hi => ?_, fun G H _ rh' _ i d x H' hd hy => ?_, fun G H _ _ _ i hi => ?_⟩ q1⟩
        · rw [rangeD_len, sizeLine_eq]; omega
        · show i < j.toNat
          rw [rangeD_len] at hi; exact hi
        · obtain ⟨e, hx⟩ := hy
          subst e hx
          obtain ⟨_, e⟩ := rangeD_get hd
          subst e
          rw [Int.zero_add]
          exact ⟨.int _, rh', Keep.refl _ _⟩
        · show j.toNat ≤ i
          rw [rangeD_len] at hi; exact hi
      ⟩
/-! ### for -/
def wForL (stay : GH → Prop) (g : TGd) (t : TSd) (De : DEnds) : List D → Ev → GH → Prop
  | [], env, G => stay G ∧ De.nx env G
  | d :: ds, env, G => stay G ∧ g d env G (fun env1 G1 => t { De with nx := fun e G => wForL stay g t De ds e G, ct := fun e G => wForL stay g t De ds e G, bk := De.nx } env1 G1) (fun c xs G' => De.ex c xs env G')
def wFor (wi : TId) (g : TGd) (t : TSd) : TSd := fun De env G => wi env G (fun ds stay G1 => wForL stay g t De ds env G1) (fun c xs G' => De.ex c xs env G')
theorem drop_cons {α : Type} {ds : List α} {i : Nat} (h : i < ds.length) : ds.drop i = ds[i] :: ds.drop (i + 1) := List.drop_eq_getElem_cons h
theorem q_for {iter : Expr} {body : List Stmt} {wi : TId} {g : TGd} {t : TSd} (hp : PassesOwn (model X.prog X.w) X.A X.env X.xe) (hc : X.calm = true) (hi : QI T X W tg iter wi) (hg : QG T X W tg g) (hb : QSs T X W body t)
    (hs : ∀ x, foldedSetIterable iter X.env x = pure x := by intro _; rfl) : QS T X W (.For tg iter body [] pos) (wFor wi g t) :=
  QS.of (ps_for hp hc hi.pi hg.pg hb.pss hs) fun env0 G0 De Dv σ0 H0 rs0 rh0 ex en q => by
    refine ⟨env0, G0, _, _, rs0, rh0, ex.at rs0, q, fun J ds stay G1 H1 rh1 k1 src q1 => ?_⟩
    refine ⟨fun i m σ H => ∃ env G, RS T G H env σ ∧ RH T G H ∧ Keep G1 H1 G H ∧ m = ds.length - i ∧ i ≤ ds.length ∧ wForL stay g t De (ds.drop i) env G, ⟨ds.length, env0, G1, rs0.keep k1, rh1, Keep.refl _ _, by simp, Nat.zero_le _, by simpa using q1⟩, ?_⟩
    rintro i m σ H ⟨env, G, rs, rh, k, rfl, hi, q⟩
    by_cases hlt : i < ds.length
    · rw [drop_cons hlt] at q
      obtain ⟨st, q⟩ := q
      refine .inr ⟨src.go G H k rh st i hlt, fun σ' H' => ∃ env G, RS T G H' env σ' ∧ RH T G H' ∧ Keep G1 H1 G H' ∧ wForL stay g t De (ds.drop (i + 1)) env G, fun σ' H' ⟨e, G', a, b, c, d⟩ => ⟨ds.length - (i + 1), by omega, e, G', a, b, c, rfl, by omega, d⟩, fun x H' hy => ?_⟩
      obtain ⟨rx, rh', k'⟩ := src.yld G H k rh st i ds[i] x H' (List.getElem?_eq_getElem hlt) hy
      have kk := k.trans k'
      have k01 := k1.trans kk
      refine ⟨ds[i], env, G, _, _, rx, rs.keep k', rh', (ex.keep k01).at (rs.keep k'), q, fun env2 G2 σ2 H2 rs2 rh2 k2 q2 => ?_⟩
      have k02 := k01.trans k2
      refine ⟨env2, G2, { De with nx := fun e G => wForL stay g t De (ds.drop (i + 1)) e G, ct := fun e G => wForL stay g t De (ds.drop (i + 1)) e G, bk := De.nx }, rs2, rh2, ex.keep k02, ⟨?_, ?_, ?_, ?_⟩, q2⟩
      · exact fun e3 G3 σ3 H3 a b c d => ⟨e3, G3, a, b, (kk.trans k2).trans c, d⟩
      · exact fun d v G' H' a b c q => en.rt _ _ _ _ a b (k02.trans c) q
      · exact fun e3 G3 σ3 H3 a b c d => en.nx _ _ _ _ a b (k02.trans c) d
      · exact fun e3 G3 σ3 H3 a b c d => ⟨e3, G3, a, b, (kk.trans k2).trans c, d⟩
    · have e : i = ds.length := by omega
      subst e
      rw [List.drop_length] at q
      exact .inl ⟨src.stop G H k rh q.1 _ (Nat.le_refl _), en.nx _ _ _ _ rs rh (k1.trans k) q.2⟩
/-! ### comprehensions -/
/-- a target made of names: it stores into the slots of vs alone -/
def GOk (T : Tb) (vs : List Nat) (g : TG) (gd : TGd) : Prop :=
  ∀ d x env σ G H (Q : Ev → GH → Prop) (Ex : DX) (Qg : List (Option V) → Hp → Prop), RV T G H d x → RS T G H env σ → gd d env G Q Ex → (∀ env' σ', RS T G H env' σ' → wipe σ' vs = wipe σ vs → Q env' G → Qg σ' H) → g x σ H Qg
def wCompL (p : Addr) (stay : GH → Prop) (gd : TGd) (tt : TTd) (te : TEd) (env0 : Ev) (Q : List D → GH → Prop) : List D → List D → GH → Prop
  | [], acc, G => stay G ∧ G p = some (.lst acc) ∧ Q acc G
  | d :: ds, acc, G => stay G ∧ gd d env0 G (fun env1 G1 => tt env1 G1 (fun b G2 => if b = true then te env1 G2 (fun y G3 => G3 p = some (.lst acc) ∧ wCompL p stay gd tt te env0 Q ds (acc ++ [y]) (gset G3 p (.lst (acc ++ [y])))) (fun _ _ _ => False)
      else wCompL p stay gd tt te env0 Q ds acc G2) (fun _ _ _ => False)) (fun _ _ _ => False)
/-- [te for gd in wi if tt], a list that is not changed any more -/
def wLc (wi : TId) (gd : TGd) (tt : TTd) (te : TEd) (vs : List Nat) : TEd := fun env G Q Ex => wi env G (fun ds stay G1 => ∀ p, G1 p = none → wCompL p stay gd tt te (wipeE env vs) (fun acc G2 => Q (.lst acc) (gdel G2 p)) ds [] (gset G1 p (.lst []))) Ex
/-- .. that may be changed -/
def wLcM (wi : TId) (gd : TGd) (tt : TTd) (te : TEd) (vs : List Nat) : TEd := fun env G Q Ex => wi env G (fun ds stay G1 => ∀ p, G1 p = none → wCompL p stay gd tt te (wipeE env vs) (fun _ G2 => Q (.ref p) G2) ds [] (gset G1 p (.lst []))) Ex
structure QTs (T : Tb) (X : Cx) (W : WX) (ifs : List Expr) (t : TTd) : Prop where
  pts : PTs X ifs (liftT T W t)
def wYes : TTd := fun _ G Q _ => Q true G
theorem PTs.imp {ifs : List Expr} {t0 t1 : TT} (h : PTs X ifs t0) (hi : ∀ σ H Q, t1 σ H Q → t0 σ H Q) : PTs X ifs t1 := ⟨fun pins s σ H Q I q => h.run pins s σ H Q I (hi σ H Q q)⟩
theorem qts_nil : QTs T X W [] wYes := ⟨PTs.imp pts_nil fun σ H Qb ⟨env, G, Q, Ex, rs, rh, ex, q, k⟩ => k true H G rh (Keep.refl _ _) q⟩
theorem qts_one {c : Expr} {t : TTd} (h : QT T X W c t) : QTs T X W [c] t := ⟨pts_one h.pt⟩
abbrev W0 : WX := fun _ _ _ _ => False
theorem lc_in {wi : TId} {g : TG} {gd : TGd} {tt : TTd} {te : TEd} {vs : List Nat} (hg : GOk T vs g gd) {env0 : Ev} {G0 : GH} {H0 : Hp} {σ0 : List (Option V)} {Ex : DX} {Qd : D → GH → Prop} {Qv : VK} {fin : Addr → List D → D} {gfin : Addr → GH → GH}
    (hfin : ∀ (p : Addr) (acc : List D) (G : GH) (H : Hp), RH T G H → G p = some (.lst acc) → RV T (gfin p G) H (fin p acc) (.ref p) ∧ RH T (gfin p G) H ∧ ∀ G1 H1, Keep G1 H1 G H → Keep G1 H1 (gfin p G) H)
    (rs0 : RS T G0 H0 env0 σ0) (rh0 : RH T G0 H0) (ex : ExOk T W G0 H0 σ0 Ex)
    (q : wi env0 G0 (fun ds stay G1 => ∀ p, G1 p = none → wCompL p stay gd tt te (wipeE env0 vs) (fun acc G2 => Qd (fin p acc) (gfin p G2)) ds [] (gset G1 p (.lst []))) Ex)
    (kf : ∀ d v G' H', RV T G' H' d v → RH T G' H' → Keep G0 H0 G' H' → Qd d G' → Qv v H') : tLc (liftI T W wi) g (liftT T W0 tt) (liftE T W0 te) vs σ0 H0 Qv := by
  refine ⟨env0, G0, _, Ex, rs0, rh0, ex, q, fun J ds stay G1 H1 rh1 k1 src q1 p np => ?_⟩
  have q1 := q1 p (rh1.fresh np)
  have kn : Keep G1 H1 (gset G1 p (.lst [])) (upd H1 p (.lst [])) := Keep.newG np
  have rhn : RH T (gset G1 p (.lst [])) (upd H1 p (.lst [])) := rh1.newG (d := .lst []) np ⟨[], upd_same, Nat.zero_le _, .nil⟩
  refine ⟨fun i m H => ∃ G acc, RH T G H ∧ Keep G1 H1 G H ∧ m = ds.length - i ∧ i ≤ ds.length ∧ acc.length ≤ i ∧ wCompL p stay gd tt te (wipeE env0 vs) (fun acc G2 => Qd (fin p acc) (gfin p G2)) (ds.drop i) acc G,
    ⟨ds.length, _, [], rhn, kn, by simp, Nat.zero_le _, Nat.le_refl _, by simpa using q1⟩, ?_⟩
  rintro i m H ⟨G, acc, rh, k, rfl, hi, hacc, q⟩
  have rsE : RS T G H (wipeE env0 vs) (wipe σ0 vs) := ((rs0.keep k1).keep k).wipe vs
  by_cases hlt : i < ds.length
  · rw [drop_cons hlt] at q
    obtain ⟨st, q⟩ := q
    refine .inr ⟨src.go G H k rh st i hlt, fun H' => ∃ G acc, RH T G H' ∧ Keep G1 H1 G H' ∧ acc.length ≤ i + 1 ∧ wCompL p stay gd tt te (wipeE env0 vs) (fun acc G2 => Qd (fin p acc) (gfin p G2)) (ds.drop (i + 1)) acc G,
      fun H' ⟨G', acc', a, b, c, d⟩ => ⟨ds.length - (i + 1), by omega, G', acc', a, b, rfl, by omega, c, d⟩, fun x H' hy => ?_⟩
    obtain ⟨rx, rh', k'⟩ := src.yld G H k rh st i ds[i] x H' (List.getElem?_eq_getElem hlt) hy
    refine hg _ _ _ _ _ _ _ _ _ rx (rsE.keep k') q fun env1 σ1 rs1 hw q1 => ⟨by rw [hw]; exact wipe_wipe σ0 vs, ?_⟩
    refine intoT rs1 rh' (fun _ _ _ _ _ _ z => z.elim) q1 fun b G2 H2 rh2 k2 q2 => ?_
    cases b with
    | false =>
      rw [if_neg Bool.false_ne_true] at q2 ⊢
      exact ⟨G2, acc, rh2, (k.trans k').trans k2, by omega, q2⟩
    | true =>
      rw [if_pos rfl] at q2 ⊢
      refine intoE (rs1.keep k2) rh2 (fun _ _ _ _ _ _ z => z.elim) q2 fun y v G3 H3 ry rh3 k3 ⟨g3, q3⟩ => ?_
      obtain ⟨us, hu, lu, ru⟩ := rh3 p _ g3
      have sl := src.len
      have hl : acc.length < sizeLine := by omega
      refine ⟨us, hu, by rw [← ru.length]; exact hl, gset G3 p (.lst (acc ++ [y])), acc ++ [y], ?_, ?_, by rw [List.length_append, List.length_singleton]; omega, q3⟩
      · exact rh3.put (d := .lst (acc ++ [y])) g3 ⟨us ++ [v], upd_same, by rw [List.length_append, List.length_singleton]; omega, (ru.append (.cons ry .nil)).keep (Keep.put g3)⟩
      · exact (((k.trans k').trans k2).trans k3).trans (Keep.put g3)
  · have e : i = ds.length := by omega
    subst e
    rw [List.drop_length] at q
    obtain ⟨st, gp, q⟩ := q
    obtain ⟨a, b, c⟩ := hfin p acc G H rh gp
    exact .inl ⟨src.stop G H k rh st _ (Nat.le_refl _), kf _ _ _ _ a b (c _ _ (k1.trans k)) q⟩
end
end DL
set_option Elab.async false
set_option linter.all false
set_option maxRecDepth 100000
set_option maxHeartbeats 4000000
namespace DL
open PySem PySem.Spec PyProof.Rows L2
section
variable {T : Tb} {X : Cx} {W : WX} {tg iter elt e a b : Expr} {ifs : List Expr} {es : List Expr} {te ta tb : TEd} {pos p spos : Pos}
theorem fin_frz {T : Tb} (p : Addr) (acc : List D) (G : GH) (H : Hp) (rh : RH T G H) (g : G p = some (.lst acc)) : RV T (gdel G p) H (.lst acc) (.ref p) ∧ RH T (gdel G p) H ∧ ∀ G1 H1, Keep G1 H1 G H → Keep G1 H1 (gdel G p) H := by
  obtain ⟨xs, hx, l, r⟩ := rh p _ g
  exact ⟨.lst gdel_same hx l (r.keep Keep.freeze), rh.freeze p, fun G1 H1 k => k.trans Keep.freeze⟩
theorem fin_mut {T : Tb} (p : Addr) (acc : List D) (G : GH) (H : Hp) (rh : RH T G H) (g : G p = some (.lst acc)) : RV T G H (.ref p) (.ref p) ∧ RH T G H ∧ ∀ G1 H1, Keep G1 H1 G H → Keep G1 H1 G H := ⟨.ref p, rh, fun _ _ k => k⟩
theorem gok_name {vs : List Nat} (i : Nat) (h : i ∈ vs) : GOk T vs (gName i) (gdName i) := fun d x env σ G H Q Ex Qg rd rs q k => k _ _ (rs.set i rd) (wipe_mem σ i _ vs h) q
/-- several names, for a tuple -/
def gdNames : List Nat → List D → Ev → Option Ev
  | [], [], env => some env
  | i :: is, d :: ds, env => gdNames is ds (env.set i (some d))
  | _, _, _ => none
def gdTupN (is : List Nat) : TGd := fun d env G Q _ => ∃ ds env', d = .tup ds ∧ gdNames is ds env = some env' ∧ Q env' G
def gNames : List Nat → TGs
  | [] => gNil
  | i :: is => gCons (gName i) (gNames is)
theorem gnames_len : ∀ {is : List Nat} {ds : List D} {env env' : Ev}, gdNames is ds env = some env' → ds.length = is.length
  | [], [], _, _, _ => rfl
  | [], _ :: _, _, _, h => nomatch h
  | _ :: _, [], _, _, h => nomatch h
  | i :: is, d :: ds, env, env', h => congrArg (· + 1) (gnames_len (is := is) (ds := ds) h)
theorem gnames_in {vs : List Nat} : ∀ (is : List Nat) {ds : List D} {xs : List V} {env env' : Ev} {σ : List (Option V)} {G : GH} {H : Hp} {Qg : List (Option V) → Hp → Prop}, (∀ i ∈ is, i ∈ vs) → RVs T G H ds xs → RS T G H env σ → gdNames is ds env = some env' →
    (∀ σ', RS T G H env' σ' → wipe σ' vs = wipe σ vs → Qg σ' H) → gNames is xs σ H Qg
  | [], [], _, env, env', σ, G, H, Qg, _, .nil, rs, e, k => ⟨rfl, by cases e; exact k σ rs rfl⟩
  | [], _ :: _, _, _, _, _, _, _, _, _, _, _, e, _ => nomatch e
  | _ :: _, [], _, _, _, _, _, _, _, _, _, _, e, _ => nomatch e
  | i :: is, d :: ds, _, env, env', σ, G, H, Qg, hm, .cons r rr, rs, e, k =>
    ⟨_, _, rfl, gnames_in is (fun j hj => hm j (List.mem_cons_of_mem _ hj)) rr (rs.set i r) e fun σ' a b => k σ' a (b.trans (wipe_mem σ i _ vs (hm i List.mem_cons_self)))⟩
theorem gok_tup {vs is : List Nat} {K : PySem.W.Frag} (hK : K = T.K) (h : ∀ i ∈ is, i ∈ vs) : GOk T vs (gTup K is.length (gNames is)) (gdTupN is) := fun d x env σ G H Q Ex Qg rd rs ⟨ds, env', e, e2, q⟩ k => by
  subst e
  cases rd with
  | tup hx l r =>
    rw [hK]
    exact ⟨_, _, rfl, hx.sq, by rw [← r.length]; exact gnames_len e2, gnames_in is h r rs e2 fun σ' a b => k env' σ' a b q⟩
theorem pgs_names0 : PGs X [] (gNames []) := pgs_nil
theorem pgs_namesC {i : Nat} {is : List Nat} {x : Str} {es : List Expr} (hN : X.N.Nodup) (hi : X.N[i]? = some x) (hx : Loc X.env.scope x) (h : PGs X es (gNames is)) (hs : (assignEach (.Name x p :: es) X.env).map (·.2) = assign (.Name x p) X.env :: (assignEach es X.env).map (·.2) := by rfl)
    (hf : X.fn x = true ∨ X.env.scope.names.lookup x = some .local := by first | exact .inl rfl | exact .inr rfl | assumption) : PGs X (.Name x p :: es) (gNames (i :: is)) := pgs_cons (pg_name hN hi hx hf) h hs
/-- as a target of a plain assignment or a for -/
theorem qg_names {k : Nat} {is : List Nat} (hK : X.K = T.K) (hc : X.calm = true) (h : PGs X es (gNames is)) (hn : (assignEach es X.env).length = is.length := by rfl) (hst : (assignEach es X.env).findIdx? (·.1) = none := by rfl) : QG T X W (.Tuple es k pos) (gdTupN is) :=
  ⟨PG.imp (pg_tup hc h hn hst) fun v σ H Qg ⟨d, env, G, Q, Ex, rd, rs, rh, ex, ⟨ds, env', e, e2, q⟩, kk⟩ => by
    subst e
    cases rd with
    | tup hx l r =>
      rw [hK]
      exact ⟨_, _, rfl, hx.sq, by rw [← r.length]; exact gnames_len e2, gnames_in (vs := is) is (fun i h => h) r rs e2 fun σ' a b => kk env' G σ' H a rh (Keep.refl _ _) q⟩⟩
variable {scope : Scope} {own : List (Str × Nat)} {wi : TId} {g : TG} {gd : TGd} {tt : TTd}
theorem q_lc (hc : X.calm = true) (hN : X.N.Nodup) (hi : QI T X W tg iter wi) (ok : BlkOk X.N X.env.scope scope own) (go : GOk T (own.map (·.2)) g gd)
    (hg : ∀ (s : Shared) (H : Hp) (C : Addr) (cl : List (Str × Addr)) (fp : List Addr), PG (X.blk s H scope (compEnvC scope cl C X.env) fp) tg g) (ht : ∀ (s : Shared) (H : Hp) (C : Addr) (cl : List (Str × Addr)) (fp : List Addr), QTs T (X.blk s H scope (compEnvC scope cl C X.env) fp) W0 ifs tt)
    (he : ∀ (s : Shared) (H : Hp) (C : Addr) (cl : List (Str × Addr)) (fp : List Addr), QE T (X.blk s H scope (compEnvC scope cl C X.env) fp) W0 elt te) (hs : ∀ x, foldedSetIterable iter X.env x = pure x := by intro _; rfl) :
    QE T X W (.ListComp elt [⟨tg, iter, ifs, 0⟩] scope pos) (wLc wi gd tt te (own.map (·.2))) :=
  QE.of (pe_lc hc hN hi.pi ok hg (fun s H C cl fp => (ht s H C cl fp).pts) (fun s H C cl fp => (he s H C cl fp).pe) hs) fun env G σ H Q Ex Qv rs rh ex q k =>
    lc_in (fin := fun p acc => .lst acc) (gfin := fun p G => gdel G p) go fin_frz rs rh ex q k
theorem q_lcM (hc : X.calm = true) (hN : X.N.Nodup) (hi : QI T X W tg iter wi) (ok : BlkOk X.N X.env.scope scope own) (go : GOk T (own.map (·.2)) g gd)
    (hg : ∀ (s : Shared) (H : Hp) (C : Addr) (cl : List (Str × Addr)) (fp : List Addr), PG (X.blk s H scope (compEnvC scope cl C X.env) fp) tg g) (ht : ∀ (s : Shared) (H : Hp) (C : Addr) (cl : List (Str × Addr)) (fp : List Addr), QTs T (X.blk s H scope (compEnvC scope cl C X.env) fp) W0 ifs tt)
    (he : ∀ (s : Shared) (H : Hp) (C : Addr) (cl : List (Str × Addr)) (fp : List Addr), QE T (X.blk s H scope (compEnvC scope cl C X.env) fp) W0 elt te) (hs : ∀ x, foldedSetIterable iter X.env x = pure x := by intro _; rfl) :
    QE T X W (.ListComp elt [⟨tg, iter, ifs, 0⟩] scope pos) (wLcM wi gd tt te (own.map (·.2))) :=
  QE.of (pe_lc hc hN hi.pi ok hg (fun s H C cl fp => (ht s H C cl fp).pts) (fun s H C cl fp => (he s H C cl fp).pe) hs) fun env G σ H Q Ex Qv rs rh ex q k =>
    lc_in (fin := fun p _ => .ref p) (gfin := fun _ G => G) go fin_mut rs rh ex q k
/-- name = [..] -/
theorem q_setLc {i : Nat} {y : Str} {py : Pos} (hc : X.calm = true) (hN : X.N.Nodup) (hy : X.N[i]? = some y) (hyl : X.env.scope.names.lookup y = some .local)
    (hsw : swapsWith (.ListComp elt [⟨tg, iter, ifs, 0⟩] scope pos) (some (.Name y py)) spos.line X.env = pure true) (hi : QI T X W tg iter wi) (ok : BlkOk X.N X.env.scope scope own) (go : GOk T (own.map (·.2)) g gd)
    (hg : ∀ (s : Shared) (H : Hp) (C : Addr) (cl : List (Str × Addr)) (fp : List Addr), PG (X.blk s H scope (compEnvC scope cl C X.env) fp) tg g) (ht : ∀ (s : Shared) (H : Hp) (C : Addr) (cl : List (Str × Addr)) (fp : List Addr), QTs T (X.blk s H scope (compEnvC scope cl C X.env) fp) W0 ifs tt)
    (he : ∀ (s : Shared) (H : Hp) (C : Addr) (cl : List (Str × Addr)) (fp : List Addr), QE T (X.blk s H scope (compEnvC scope cl C X.env) fp) W0 elt te) (hs : ∀ x, foldedSetIterable iter X.env x = pure x := by intro _; rfl) :
    QS T X W (.Assign [.Name y py] (.ListComp elt [⟨tg, iter, ifs, 0⟩] scope pos) spos) (wSet i (wLc wi gd tt te (own.map (·.2)))) :=
  QS.of (ps_setLc hc hN hy hyl hsw hi.pi ok hg (fun s H C cl fp => (ht s H C cl fp).pts) (fun s H C cl fp => (he s H C cl fp).pe) hs) fun env G De Dv σ H rs rh ex en q =>
    lc_in (fin := fun p acc => .lst acc) (gfin := fun p G => gdel G p) (Qd := fun d G1 => De.nx (env.set i (some d)) G1) go fin_frz rs rh (ex.at rs) q fun d v G' H' rd rh' k' q' => en.nx _ _ _ _ ((rs.keep k').set i rd) rh' k' q'
theorem q_setLcM {i : Nat} {y : Str} {py : Pos} (hc : X.calm = true) (hN : X.N.Nodup) (hy : X.N[i]? = some y) (hyl : X.env.scope.names.lookup y = some .local)
    (hsw : swapsWith (.ListComp elt [⟨tg, iter, ifs, 0⟩] scope pos) (some (.Name y py)) spos.line X.env = pure true) (hi : QI T X W tg iter wi) (ok : BlkOk X.N X.env.scope scope own) (go : GOk T (own.map (·.2)) g gd)
    (hg : ∀ (s : Shared) (H : Hp) (C : Addr) (cl : List (Str × Addr)) (fp : List Addr), PG (X.blk s H scope (compEnvC scope cl C X.env) fp) tg g) (ht : ∀ (s : Shared) (H : Hp) (C : Addr) (cl : List (Str × Addr)) (fp : List Addr), QTs T (X.blk s H scope (compEnvC scope cl C X.env) fp) W0 ifs tt)
    (he : ∀ (s : Shared) (H : Hp) (C : Addr) (cl : List (Str × Addr)) (fp : List Addr), QE T (X.blk s H scope (compEnvC scope cl C X.env) fp) W0 elt te) (hs : ∀ x, foldedSetIterable iter X.env x = pure x := by intro _; rfl) :
    QS T X W (.Assign [.Name y py] (.ListComp elt [⟨tg, iter, ifs, 0⟩] scope pos) spos) (wSet i (wLcM wi gd tt te (own.map (·.2)))) :=
  QS.of (ps_setLc hc hN hy hyl hsw hi.pi ok hg (fun s H C cl fp => (ht s H C cl fp).pts) (fun s H C cl fp => (he s H C cl fp).pe) hs) fun env G De Dv σ H rs rh ex en q =>
    lc_in (fin := fun p _ => .ref p) (gfin := fun _ G => G) (Qd := fun d G1 => De.nx (env.set i (some d)) G1) go fin_mut rs rh (ex.at rs) q fun d v G' H' rd rh' k' q' => en.nx _ _ _ _ ((rs.keep k').set i rd) rh' k' q'
/-- the iterable is a text -/
def strD (z : Str) : List D := z.cps.toList.map fun c => D.str ⟨#[c]⟩
end
/-! ### defs -/
/-- what a def promises, of data -/
abbrev DSp := List D → GH → DK → DX → Prop
/-- room for a call, and no repr around -/
structure RoomG (k : Nat) (A : Around) : Prop where
  r : Room k A
  g : A.guards = some []
theorem RoomG.mono {j k : Nat} {A : Around} (r : RoomG k A) (h : j ≤ k) : RoomG j A := ⟨r.r.mono h, r.g⟩
theorem guards_deeper (A : Around) (env : Env) : (A.deeper env).guards = A.guards := by
  first
    | rfl
    | (obtain ⟨a, b, c, d, e⟩ := A; cases d <;> rfl)
def liftSp (T : Tb) (sp : DSp) : Sp := fun vs H Qv Ev' => ∃ ds G Q Ex, RVs T G H ds vs ∧ RH T G H ∧ sp ds G Q Ex ∧ (∀ v H', QV T G H Q v H' → Qv v H') ∧
  ∀ c xs G' cl dx H', Ex c xs G' → RX T G' H' c xs cl dx → RH T G' H' → Keep G H G' H' → Ev' cl dx H'
/-- the def at f keeps its promise -/
structure FnG (P : Program) (w : World) (K : PySem.W.Frag) (mg : Str → Option Value) (base : Heap) (CX : CXT) (k : Nat) (f : Addr) (fd : FuncData) (ps : List Str) (sp : Sp) : Prop where
  len : ∀ vs H Q E, sp vs H Q E → vs.length = ps.length
  run : ∀ (A : Around) (outer : List Env) (s : Shared) (H : Hp) (args : Args) (us : List Value) (vs : List V) (Q : VK) (E : XK), RoomG k A → Env0 P w K mg base A outer s H → BindsTo s fd args (ps.zip us) → Vals vs us → sp vs H Q E →
    codeAny (model P w) A (.call (.ref f) args) (CR CX outer P w H s Q E) s
theorem FnG.mono {P : Program} {w : World} {K : PySem.W.Frag} {mg : Str → Option Value} {base : Heap} {CX : CXT} {j k : Nat} {f : Addr} {fd : FuncData} {ps : List Str} {sp : Sp} (F : FnG P w K mg base CX j f fd ps sp) (h : j ≤ k) : FnG P w K mg base CX k f fd ps sp :=
  ⟨F.len, fun A outer s H args us vs Q E hr => F.run A outer s H args us vs Q E (hr.mono h)⟩

theorem FnG.cast {P : Program} {w : World} {K : PySem.W.Frag} {mg : Str → Option Value} {base : Heap} {CX : CXT} {k : Nat} {f : Addr} {fd : FuncData} {ps : List Str} {sp sp' : Sp} (F : FnG P w K mg base CX k f fd ps sp) (h : ∀ vs H Q E, sp' vs H Q E → sp vs H Q E) : FnG P w K mg base CX k f fd ps sp' :=
  ⟨fun vs H Q E q => F.len vs H Q E (h _ _ _ _ q), fun A outer s H args us vs Q E hr he hb hv hs => F.run A outer s H args us vs Q E hr he hb hv (h _ _ _ _ hs)⟩
def startD (N : List Str) (ds : List D) : Ev := ds.map some ++ List.replicate (N.length - ds.length) none
theorem start_rs {T : Tb} {G : GH} {H : Hp} {N : List Str} {ds : List D} {vs : List V} (r : RVs T G H ds vs) : RS T G H (startD N ds) (L2.start N vs) := by
  have l := r.length
  refine ⟨by unfold startD L2.start; simp [l], fun i d e => ?_⟩
  unfold startD at e
  by_cases hi : i < ds.length
  · rw [List.getElem?_append_left (by simpa using hi), List.getElem?_map] at e
    obtain ⟨d', e1, e2⟩ := Option.map_eq_some_iff.mp e
    cases e2
    obtain ⟨v, h1, h2⟩ := r.get e1
    refine ⟨v, ?_, h2⟩
    unfold L2.start
    rw [List.getElem?_append_left (by rw [List.length_map]; omega), List.getElem?_map, h1]
    rfl
  · rw [List.getElem?_append_right (by simpa using hi), List.getElem?_replicate] at e
    split at e <;> cases e
/-- the rule for a def: its body's reading -/
theorem fnG_of {CX : CXT} {P : Program} {w : World} {K : PySem.W.Frag} {mg : Str → Option Value} {base : Heap} {k : Nat} {x qual : Str} {st : Stmt} {f : Addr} {fd : FuncData} {N ps : List Str} {sp : Sp} (F : Fun K x qual st f fd) (S : FnScope N ps (defScope st))
    (len : ∀ vs H Q E, sp vs H Q E → vs.length = ps.length)
    (body : ∀ (cdv : Value) (A : Around) (outer : List Env) (s : Shared) (H : Hp) (vs : List V) (Q : VK) (E : XK), RoomG k (A.deeper (envOfC qual (defScope st) s.heap.objs.size f cdv)) → sp vs H Q E →
      ∃ t, PSs (cxOf CX P w K mg base N qual (defScope st) f cdv A outer s H E) (defBody st) t ∧ t { nx := fun _ H' => Q .non H', rt := Q } (L2.start N vs) H) : FnG P w K mg base CX (k + 1) f fd ps sp := by
  obtain ⟨oc, od, kV, doc, pm, an, cdv, ct, osl, rfl, lk, hcd⟩ := F.ex
  refine ⟨len, fun A outer s H args us vs Q E rg e0 bind rv hs => ?_⟩
  have hl := len _ _ _ _ hs
  have here : ∀ b o, base.get? b = some o → s.heap.get? b = some o := fun b o e => (e0.bs b o e).1
  have KX : K.In s.heap := e0.mod.kin.keeps here
  have scopes : ∀ y ∈ ps.zip us, (defScope st).names.lookup y.1 = some .local ∨ ((defScope st).names.lookup y.1 = some .cell ∧ ((cellsFrom (s.heap.objs.size + 1) (defScope st).names []).lookup y.1).isSome = true) := by
    rintro ⟨n, v⟩ hy
    rcases S.par n (List.of_mem_zip hy).1 with q | q
    · exact Or.inl q
    · exact Or.inr ⟨q, PySem.W.cellsFrom_some _ _ _ (Or.inl q)⟩
  refine codeAny_call_function rg.r.depth (KX _ _ lk) rfl S.co S.gen rfl (PySem.W.codeRec_of KX hcd) (bind _ _ _ _ ?_)
  refine wpAny_newFunctionEnv_cells S.kind scopes fun env he s1 inn => ?_
  subst he
  refine ⟨(e0.mod.nolimit.keeps here).keeps inn.toInCall.keep, codeAny_func ?_⟩
  obtain ⟨t, ht, hq⟩ := body cdv A outer s H vs Q E ⟨rg.r.deeper _, (guards_deeper A _).trans rg.g⟩ hs
  have I := inv_start (CX := CX) (cd := cdv) (f := f) (E := E) S rg.r.hd e0 hl rv inn
  refine wpAny_mono (ht.run [] s1 (L2.start N vs) H _ I hq) (fun fl s' ends => ?_) fun _ _ z => z
  cases fl with
  | ret u => exact let ⟨v, _, H', J, r', q⟩ := ends; ⟨v, H', J.os, J.bare, J.base, J.hok, r', q⟩
  | next => exact let ⟨_, H', J, q⟩ := ends; ⟨V.non, H', J.os, J.bare, J.base, J.hok, rfl, q⟩
  | brk => exact let ⟨_, _, _, q⟩ := ends; q.elim
  | cont => exact let ⟨_, _, _, q⟩ := ends; q.elim
/-- the same, of data -/
theorem okD_of {T : Tb} {P : Program} {w : World} {mg : Str → Option Value} {base : Heap} {k : Nat} {x qual : Str} {st : Stmt} {f : Addr} {fd : FuncData} {N ps : List Str} {sp : DSp} {t : TSd} (F : Fun T.K x qual st f fd) (S : FnScope N ps (defScope st))
    (len : ∀ ds G Q Ex, sp ds G Q Ex → ds.length = ps.length)
    (body : ∀ (cdv : Value) (A : Around) (outer : List Env) (s : Shared) (H : Hp) (E : XK), RoomG k (A.deeper (envOfC qual (defScope st) s.heap.objs.size f cdv)) →
      QSs T (cxOf (L2.CX P w) P w T.K mg base N qual (defScope st) f cdv A outer s H E) (fun cls d _ H => E cls d H) (defBody st) t)
    (read : ∀ ds G Q Ex, sp ds G Q Ex → t { nx := fun _ G' => Q .non G', rt := Q, bk := fun _ _ => False, ct := fun _ _ => False, ex := fun c xs _ G' => Ex c xs G' } (startD N ds) G) :
    FnG P w T.K mg base (L2.CX P w) (k + 1) f fd ps (liftSp T sp) := by
  refine fnG_of F S (fun vs H Q E ⟨ds, G, Q', Ex, r, _, h, _⟩ => r.length.symm.trans (len _ _ _ _ h)) fun cdv A outer s H vs Q E hr ⟨ds, G, Q', Ex, r, rh, h, k1, k2⟩ => ⟨_, (body cdv A outer s H E hr).pss, ?_⟩
  refine ⟨startD N ds, G, _, start_rs r, rh, fun c xs env' G' cl dx σ' H' e rx rs rh' kp => k2 c xs G' cl dx H' e rx rh' kp, ⟨?_, ?_, ?_, ?_⟩, read ds G Q' Ex h⟩
  · exact fun _ G' _ H' _ b c q => k1 _ _ ⟨.non, G', .non, b, c, q⟩
  · exact fun d v G' H' a b c q => k1 _ _ ⟨d, G', a, b, c, q⟩
  · exact fun _ _ _ _ _ _ _ z => z.elim
  · exact fun _ _ _ _ _ _ _ z => z.elim
section
variable {T : Tb} {X : Cx} {W : WX} {k : Nat} {f : Addr} {fd : FuncData} {ps : List Str} {sp : DSp} {x : Str} {p pos : Pos} {e : Expr} {es : List Expr} {u : TAd}
def wFn (sp : DSp) (t : TAd) : TEd := fun env G Q Ex => t env G (fun ds G1 => sp ds G1 Q Ex) Ex
theorem run_G {pins : List (Addr × Obj)} {σ : List (Option V)} {H : Hp} {s : Shared} {Q : VK} {us ds : List Value} {vs dvs : List V} {sp : Sp} (tk : Takes X W) (F : FnG X.prog X.w X.K X.mg X.base (L2.CX X.prog X.w) k f fd ps sp) (hr : RoomG k X.A) (hb : Binds X.K fd ps ds) (hd : Vals dvs ds)
    (I : Inv X pins σ H s) (r : Vals vs us) (h : sp (vs ++ dvs) H Q (WE W σ)) : wpAny (model X.prog X.w) X.A (call (.ref f) us) (EP X pins σ Q) X.xe s := by
  have r2 := r.append hd
  have hl : (us ++ ds).length = ps.length := r2.length.symm.trans (F.len _ _ _ _ h)
  refine wpAny_call (codeAny_mono (F.run X.A X.stack s H ⟨us, []⟩ (us ++ ds) (vs ++ dvs) Q (WE W σ) hr I.env0 (hb s us I.kIn hl) r2 h) fun res s' hq => ?_)
  rcases res with er | (fl | fl | fl | fl)
  · exact passAt tk σ pins H s er s' I hq
  all_goals first | exact I.after hq | exact False.elim hq
theorem intoSp {T : Tb} {W : WX} {sp : DSp} {ds : List D} {vs : List V} {G : GH} {H : Hp} {σ : List (Option V)} {Q : DK} {Ex : DX} {Qv : VK} (r : RVs T G H ds vs) (rh : RH T G H) (ex : ExOk T W G H σ Ex) (h : sp ds G Q Ex)
    (k : ∀ d v G' H', RV T G' H' d v → RH T G' H' → Keep G H G' H' → Q d G' → Qv v H') : liftSp T sp vs H Qv (WE W σ) :=
  ⟨ds, G, Q, Ex, r, rh, h, fun v H' ⟨d, G', a, b, c, q⟩ => k d v G' H' a b c q, fun c xs G' cl dx H' a b d e => ex c xs G' cl dx H' a b d e⟩
theorem q_call (tk : Takes X W) (F : FnG X.prog X.w X.K X.mg X.base (L2.CX X.prog X.w) k f fd ps (liftSp T sp)) (hr : RoomG k X.A) (hg : Gl X x) (hm : X.mg x = some (.ref f)) (hk : PySem.W.keepIn X.K (.ref f) = true) (hb : Binds X.K fd ps [])
    (ha : QA T X W (e :: es) u) (hdb : (x == ("__debug__" : Str)) = false := by decide) (he : starEach (e :: es) X.env = (false, eval e X.env) :: starEach es X.env := by rfl) (hpl : (backTo pos (starEach es X.env)).any (·.1) = false := by rfl) :
    QE T X W (.Call (.Name x p) (e :: es) [] pos) (wFn sp u) :=
  ⟨⟨fun pins s σ H Qv I ⟨env, G, Q, Ex, rs, rh, ex, q, kq⟩ => by
    refine wpAny_Call_Name_kw (ld_glob I hg hm ?_ hdb)
    have q' : liftA T W u σ H (fun vs H1 => liftSp T sp vs H1 Qv (WE W σ)) := intoA rs rh ex q fun ds vs G1 H1 rds rh1 k1 q1 =>
      intoSp rds rh1 (ex.keep k1) q1 fun d v G' H' a b c d' => kq v H' ⟨d, G', a, b, k1.trans c, d'⟩
    refine PySem.W.callWith_K (h₀ := X.base) I.ok.mod.kin hk (thn (ha.pa.run pos pins s σ H _ I q') fun us s1 ⟨vs, H1, I1, r, q2⟩ => ⟨I1.kIn, ?_⟩) he hpl
    refine run_G tk F hr hb .nil I1 r ?_
    rw [List.append_nil]
    exact q2⟩⟩
theorem q_call0 (tk : Takes X W) (F : FnG X.prog X.w X.K X.mg X.base (L2.CX X.prog X.w) k f fd ps (liftSp T sp)) (hr : RoomG k X.A) (hg : Gl X x) (hm : X.mg x = some (.ref f)) (hk : PySem.W.keepIn X.K (.ref f) = true) (hb : Binds X.K fd ps [])
    (hdb : (x == ("__debug__" : Str)) = false := by decide) : QE T X W (.Call (.Name x p) [] [] pos) (wFn sp wNil) :=
  ⟨⟨fun pins s σ H Qv I ⟨env, G, Q, Ex, rs, rh, ex, q, kq⟩ => by
    refine wpAny_Call_Name_kw (ld_glob I hg hm ?_ hdb)
    have q' : liftSp T sp [] H Qv (WE W σ) := intoSp .nil rh ex q fun d v G' H' a b c d' => kq v H' ⟨d, G', a, b, c, d'⟩
    exact PySem.W.callWith_K0 I.kIn hk (run_G (us := []) tk F hr hb .nil I .nil (by rw [List.append_nil]; exact q'))⟩⟩
end
end DL
set_option Elab.async false
set_option linter.all false
set_option maxRecDepth 100000
set_option maxHeartbeats 4000000
namespace DL
open PySem PySem.Spec PyProof.Rows L2
def keyP : Key → PyData
  | .inl i => .int i
  | .inr x => .str x
mutual
/-- data with dicts, as it is shown -/
def pyR : D → PyData
  | .non => .none
  | .bl b => .bool b
  | .int i => .int i
  | .str x => .str x
  | .tup xs => .tuple (pyRs xs)
  | .lst xs => .list (pyRs xs)
  | .frl xs => .list (pyRs xs)
  | .ty _ => .none
  | .ref _ => .none
  | .dic ks vs => .dict ((ks.map keyP).zip (pyRs vs))
  | .obj _ _ => .none
def pyRs : List D → List PyData
  | [] => []
  | d :: ds => pyR d :: pyRs ds
end
def scalD : D → Bool
  | .non => true
  | .bl _ => true
  | .int _ => true
  | .str _ => true
  | _ => false
mutual
/-- no dict within -/
def flatD : D → Bool
  | .non => true
  | .bl _ => true
  | .int _ => true
  | .str _ => true
  | .tup xs => flatDs xs
  | .lst xs => flatDs xs
  | .frl xs => flatDs xs
  | _ => false
def flatDs : List D → Bool
  | [] => true
  | d :: ds => flatD d && flatDs ds
end
section
variable {T : Tb} {X : Cx} {pins : List (Addr × Obj)} {σ : List (Option V)} {G : GH} {H : Hp} {s : Shared}
mutual
theorem RV.reads (hK : X.K = T.K) (I : Inv X pins σ H s) : ∀ {d : D} {v : V} {u : Value}, RV T G H d v → RelV v u → flatD d = true → ∃ as, Reads s.heap u (pyR d) as ∧ (pyR d).hasDict = false
  | _, _, _, .non, r, _ => by cases r; unfold pyR; exact ⟨_, Reads.none, by unfold PyData.hasDict; rfl⟩
  | _, _, _, .bl b, r, _ => by cases r; unfold pyR; exact ⟨_, Reads.bool b, by unfold PyData.hasDict; rfl⟩
  | _, _, _, .int i, r, _ => by obtain ⟨t, rfl⟩ := r; unfold pyR; exact ⟨_, Reads.int i t, by unfold PyData.hasDict; rfl⟩
  | _, _, _, .str x, r, _ => by obtain ⟨t, rfl⟩ := r; unfold pyR; exact ⟨_, Reads.str x t, by unfold PyData.hasDict; rfl⟩
  | _, _, _, .ty n, _, h => by unfold flatD at h; cases h
  | _, _, _, .ref a, _, h => by unfold flatD at h; cases h
  | _, _, _, .dic _ _ _ _ _, _, h => by unfold flatD at h; cases h
  | _, _, _, .obj _ _ _ _, _, h => by unfold flatD at h; cases h
  | _, _, _, .tup hx _ rr, r, h => by
    cases r
    obtain ⟨its, rv, ⟨o, ho, hc, n, hd⟩, _⟩ := I.tuple (by rw [hK]; exact hx.sq)
    unfold flatD at h
    obtain ⟨as, q, nd⟩ := RVs.reads hK I rr rv h
    unfold pyR PyData.hasDict
    exact ⟨_, Reads.tuple ho hc hd q, nd⟩
  | _, _, _, .lst _ hx _ rr, r, h => by
    cases r
    obtain ⟨its, rv, ⟨o, n, ho, hc, _, hd⟩, _⟩ := I.list (SqL.of hx)
    unfold flatD at h
    obtain ⟨as, q, nd⟩ := RVs.reads hK I rr rv h
    unfold pyR PyData.hasDict
    exact ⟨_, Reads.list ho hc hd q, nd⟩
  | _, _, _, .frl hx _ rr, r, h => by
    cases r
    obtain ⟨its, rv, ⟨o, n, ho, hc, _, hd⟩, _⟩ := I.list (by rw [hK]; exact hx.sq)
    unfold flatD at h
    obtain ⟨as, q, nd⟩ := RVs.reads hK I rr rv h
    unfold pyR PyData.hasDict
    exact ⟨_, Reads.list ho hc hd q, nd⟩
theorem RVs.reads (hK : X.K = T.K) (I : Inv X pins σ H s) : ∀ {ds : List D} {vs : List V} {us : List Value}, RVs T G H ds vs → Vals vs us → flatDs ds = true → ∃ as, ReadsAll s.heap us (pyRs ds) as ∧ PyData.hasDictAll (pyRs ds) = false
  | _, _, _, .nil, r, _ => by cases r; unfold pyRs; exact ⟨_, ReadsAll.nil, by unfold PyData.hasDictAll; rfl⟩
  | _, _, _, .cons a b, r, h => by
    cases r with
    | cons r1 r2 =>
      unfold flatDs at h
      obtain ⟨h1, h2⟩ := Bool.and_eq_true_iff.mp h
      obtain ⟨as, q1, n1⟩ := RV.reads hK I a r1 h1
      obtain ⟨bs, q2, n2⟩ := RVs.reads hK I b r2 h2
      unfold pyRs
      exact ⟨_, ReadsAll.cons q1 q2, by unfold PyData.hasDictAll; rw [n1, n2]; rfl⟩
end
theorem scal_reads {d : D} {v : V} {u : Value} (rv : RV T G H d v) (r : RelV v u) (h : scalD d = true) : Reads s.heap u (pyR d) [] := by
  cases rv with
  | non => cases r; unfold pyR; exact Reads.none
  | bl b => cases r; unfold pyR; exact Reads.bool b
  | int i => obtain ⟨t, rfl⟩ := r; unfold pyR; exact Reads.int i t
  | str x => obtain ⟨t, rfl⟩ := r; unfold pyR; exact Reads.str x t
  | _ => cases h
theorem key_reads {k : Key} {v : Value} (h : keyIs k v = true) : Reads s.heap v (keyP k) [] := by
  rcases keyIs_shape h with ⟨i, t, rfl, rfl⟩ | ⟨x, t, rfl, rfl⟩
  · exact Reads.int i t
  · exact Reads.str x t
theorem pairs_keys {P : Program} {w : World} : ∀ {es : List DictEntry} {vs : List (Key × Value)}, Pairs (mixKind P w) es vs → ReadsAll s.heap (es.map (·.key)) (vs.map fun p => keyP p.1) []
  | _, _, .nil => ReadsAll.nil
  | _, _, .cons h _ t => ReadsAll.cons (as := []) (bs := []) (key_reads h) (pairs_keys t)
theorem pairs_vals {P : Program} {w : World} : ∀ {es : List DictEntry} {vs : List (Key × Value)}, Pairs (mixKind P w) es vs → es.map (·.val) = vs.map (·.2)
  | _, _, .nil => rfl
  | _, _, .cons _ e t => by
    rw [List.map_cons, List.map_cons, pairs_vals t, e]
theorem scals_reads : ∀ {ds : List D} {vs : List V} {us : List Value}, RVs T G H ds vs → Vals vs us → ds.all scalD = true → ReadsAll s.heap us (pyRs ds) []
  | _, _, _, .nil, .nil, _ => by unfold pyRs; exact ReadsAll.nil
  | _, _, _, .cons a b, .cons r t, h => by
    rw [List.all_cons] at h
    obtain ⟨h1, h2⟩ := Bool.and_eq_true_iff.mp h
    unfold pyRs
    exact ReadsAll.cons (as := []) (bs := []) (scal_reads a r h1) (scals_reads b t h2)
/-- what repr takes: data without dicts, or a dict of scalars -/
def showD : D → Bool
  | .dic _ vs => vs.all scalD
  | d => flatD d
theorem kv_split : ∀ {ks : List Key} {xs : List V} {vs : List (Key × Value)}, ks.length = xs.length → KV (ks.zip xs) vs → vs.map (fun p => keyP p.1) = ks.map keyP ∧ Vals xs (vs.map (·.2))
  | [], [], _, _, r => by
    have r : KV ([] : List (Key × V)) _ := r
    unfold KV at r
    cases r
    exact ⟨rfl, .nil⟩
  | k :: ks, x :: xs, vs, hl, r => by
    have r : KV ((k, x) :: ks.zip xs) vs := r
    unfold KV at r
    cases r with
    | cons h t =>
      obtain ⟨h1, h2⟩ := h
      obtain ⟨a, b⟩ := kv_split (ks := ks) (xs := xs) (Nat.succ.inj hl) t
      refine ⟨?_, .cons h2 b⟩
      rw [List.map_cons, List.map_cons, a, ← h1]
  | [], _ :: _, _, hl, _ => nomatch hl
  | _ :: _, [], _, hl, _ => nomatch hl
theorem zip_maps {α β γ : Type} (f : α → γ) (g : β → γ) : ∀ (as : List α) (bs : List β), as.length = bs.length → ((as.map f).zip (bs.map g)).map (·.1) = as.map f ∧ ((as.map f).zip (bs.map g)).map (·.2) = bs.map g
  | [], [], _ => ⟨rfl, rfl⟩
  | a :: as, b :: bs, h => by
    obtain ⟨x, y⟩ := zip_maps f g as bs (Nat.succ.inj h)
    simp only [List.map_cons, List.zip_cons_cons, x, y, and_self]
  | [], _ :: _, h => nomatch h
  | _ :: _, [], h => nomatch h
theorem pyRs_map : ∀ ds : List D, pyRs ds = ds.map pyR
  | [] => by unfold pyRs; rfl
  | d :: ds => by unfold pyRs; rw [pyRs_map ds]; rfl
theorem show_reads (hK : X.K = T.K) (I : Inv X pins σ H s) {d : D} {v : V} {u : Value} (rv : RV T G H d v) (r : RelV v u) (h : showD d = true) : ∃ as, Reads s.heap u (pyR d) as ∧ ((pyR d).hasDict = true → sysModules ∉ as) := by
  have plain : flatD d = true → ∃ as, Reads s.heap u (pyR d) as ∧ ((pyR d).hasDict = true → sysModules ∉ as) := fun hf => by
    obtain ⟨as, q, n⟩ := RV.reads hK I rv r hf
    exact ⟨as, q, PyData.noDict_hsm n⟩
  cases rv with
  | @dic a kvs ks xs ds g hx e l rr =>
    cases r
    obtain ⟨_, hsys, vs, kv, o, es, ep, ho, hex, hd, _, hp, _⟩ := (show ObjOk X.prog X.w H s.heap a (.dK kvs) from I.hok a _ hx)
    subst e
    obtain ⟨h1, h2⟩ := kv_split l kv
    have hl : ks.length = ds.length := by rw [l, rr.length]
    obtain ⟨z1, z2⟩ := zip_maps keyP pyR ks ds hl
    have k1 := pairs_keys (s := s) hp
    have k2 := scals_reads (s := s) rr h2 h
    unfold pyR
    refine ⟨_, Reads.dict (as := []) (bs := []) ho hex.1 hd ?_ ?_, fun _ hm => ?_⟩
    · rw [pyRs_map, z1, ← h1]; exact k1
    · rw [pyRs_map, z2, pairs_vals hp, ← pyRs_map]; exact k2
    · have e : sysModules = a := by simpa using hm
      rw [e] at hsys
      simp at hsys
  | non => exact plain h
  | bl _ => exact plain h
  | int _ => exact plain h
  | str _ => exact plain h
  | ty _ => exact plain h
  | ref _ => exact plain h
  | tup _ _ _ => exact plain h
  | lst _ _ _ _ => exact plain h
  | frl _ _ _ => exact plain h
  | obj _ _ _ _ => exact plain h
def reprO : OL := fun ds G Q => match ds with
  | [x] => showD x = true ∧ (pyR x).showable = true ∧ (pyR x).shown.length ≤ sizeLine ∧ (pyR x).depth ≤ 60 ∧ Q (.str (pyR x).shown) G
  | _ => False
def rRepr (T : Tb) : List V → Hp → VK → Prop := fun vs H Q => ∃ d v G, vs = [v] ∧ RV T G H d v ∧ RH T G H ∧ showD d = true ∧ (pyR d).showable = true ∧ (pyR d).shown.length ≤ sizeLine ∧ (pyR d).depth ≤ 60 ∧ Q (.str (pyR d).shown) H
theorem call_reprD (hK : X.K = T.K) (hg : X.A.guards = some []) (hu : X.A.units + 64 < cLine) : CallR X (.builtin "repr") (rRepr T) := by
  intro pins s σ H xs us Q I r h
  obtain ⟨d, v, G, rfl, rv, rh, h1, h2, h3, h4, q⟩ := h
  obtain ⟨u, rfl, ru⟩ := vals1 r
  have byRef : ∀ a, u = .ref a → wpAny (model X.prog X.w) X.A (call (.builtin "repr") [u]) (EP X pins σ Q) X.xe s := fun a e => by
    subst e
    obtain ⟨as, rd, hs⟩ := show_reads hK I rv ru h1
    refine repr_of_reads' rd h2 hs hg (by omega) (fun _ _ e => e) (fun h' u tk kk => ?_) h3
    exact ⟨.str _, H, I.kept kk, ⟨_, rfl⟩, q⟩
  cases rv with
  | non =>
    cases ru
    unfold pyR PyData.shown at q
    exact PySem.P.repr_of_none ⟨.str _, H, I.tok _, ⟨_, rfl⟩, q⟩
  | bl b =>
    cases ru
    unfold pyR PyData.shown at q
    exact PySem.P.repr_of_bool ⟨.str _, H, I.tok _, ⟨_, rfl⟩, q⟩
  | int i =>
    obtain ⟨t, rfl⟩ := ru
    unfold pyR PyData.shown at q
    unfold pyR PyData.showable at h2
    exact PySem.P.repr_of_int (of_decide_eq_true h2) ⟨.str _, H, I.tok _, ⟨_, rfl⟩, q⟩
  | str x =>
    obtain ⟨t, rfl⟩ := ru
    unfold pyR PyData.shown at q h3
    exact PySem.P.repr_of_str ⟨.str _, H, I.tok _, ⟨_, rfl⟩, q⟩ h3
  | ty n => unfold showD flatD at h1; cases h1
  | ref a => unfold showD flatD at h1; cases h1
  | tup _ _ _ => exact byRef _ ru
  | lst _ _ _ _ => exact byRef _ ru
  | frl _ _ _ => exact byRef _ ru
  | dic _ _ _ _ _ => exact byRef _ ru
  | obj _ _ _ _ => unfold showD flatD at h1; cases h1
theorem ci_repr : CallI T (rRepr T) reprO := by
  intro G H ds vs Q Qv rh r q k
  rcases r with _ | ⟨rx, _ | ⟨_, _⟩⟩
  · exact False.elim q
  · obtain ⟨h1, h2, h3, h4, q⟩ := q
    exact ⟨_, _, G, rfl, rx, rh, h1, h2, h3, h4, k _ _ G H (.str _) rh (Keep.refl _ _) q⟩
  · exact False.elim q
end
/-! ### texts -/
section
variable {T : Tb} {X : Cx} {W : WX} {tg e a b o : Expr} {es : List Expr} {te ta tb to : TEd} {u : TAd} {pos p apos : Pos}
def wiStr (te : TEd) : TId := fun env G Q Ex => te env G (fun d G1 => ∃ z, d = .str z ∧ z.length ≤ sizeLine ∧ Q (strD z) always G1) Ex
theorem strD_len (z : Str) : (strD z).length = z.length := by unfold strD; simp [Str.length]
theorem qi_str (he : QE T X W e te) : QI T X W tg e (wiStr te) :=
  ⟨PI.imp (pi_str he.pe) fun σ H R ⟨env, G, Q, Ex, rs, rh, ex, q, k⟩ => intoE rs rh ex q fun d v G1 H1 rd rh1 k1 ⟨z, e, hz, q1⟩ => by
    subst e
    cases rd
    refine ⟨z, rfl, k _ _ always _ _ rh1 k1 ⟨by rw [strD_len]; exact hz, fun G H _ _ _ i hi => ?_, fun G H _ rh' _ i d x H' hd hy => ?_, fun G H _ _ _ i hi => ?_⟩ q1⟩
    · rw [strD_len] at hi
      exact hi
    · obtain ⟨e1, c, hc, e2⟩ := hy
      subst e1 e2
      have e : strD z = z.cps.toList.map fun c => D.str ⟨#[c]⟩ := rfl
      rw [e, List.getElem?_map] at hd
      have hc' : z.cps.toList[i]? = some c := by rw [Array.getElem?_toList]; exact hc
      rw [hc'] at hd
      cases hd
      exact ⟨.str _, rh', Keep.refl _ _⟩
    · rw [strD_len] at hi
      exact hi⟩
/-- one sign in a text -/
def inSO : O2 := fun x y G Q => ∃ c z, x = .str ⟨#[c]⟩ ∧ y = .str z ∧ Q (.bl (decide (c ∈ z.cps.toList))) G
def notInSO : O2 := fun x y G Q => ∃ c z, x = .str ⟨#[c]⟩ ∧ y = .str z ∧ Q (.bl (!decide (c ∈ z.cps.toList))) G
theorem oi_inS : OpI T (fun x y H Q => ∃ (c : Nat) (z : Str), x = .str ⟨#[c]⟩ ∧ y = .str z ∧ Q (.bl (decide (c ∈ z.cps.toList))) H) inSO := by
  intro G H x y v u Q Qv rh rx ry ⟨c, z, e1, e2, q⟩ k
  subst e1 e2
  cases rx
  cases ry
  exact ⟨c, z, rfl, rfl, k _ _ G H (.bl _) rh (Keep.refl _ _) q⟩
theorem oi_notInS : OpI T (fun x y H Q => ∃ (c : Nat) (z : Str), x = .str ⟨#[c]⟩ ∧ y = .str z ∧ Q (.bl (!decide (c ∈ z.cps.toList))) H) notInSO := by
  intro G H x y v u Q Qv rh rx ry ⟨c, z, e1, e2, q⟩ k
  subst e1 e2
  cases rx
  cases ry
  exact ⟨c, z, rfl, rfl, k _ _ G H (.bl _) rh (Keep.refl _ _) q⟩
def isBO : O2 := fun x y G Q => ∃ a b, x = .bl a ∧ y = .bl b ∧ Q (.bl (decide (a = b))) G
def notBO : O2 := fun x y G Q => ∃ a b, x = .bl a ∧ y = .bl b ∧ Q (.bl (!decide (a = b))) G
theorem oi_isB : OpI T rIsB isBO := by
  intro G H x y v u Q Qv rh rx ry ⟨a, b, e1, e2, q⟩ k
  subst e1 e2
  cases rx
  cases ry
  exact ⟨a, b, rfl, rfl, k _ _ G H (.bl _) rh (Keep.refl _ _) q⟩
theorem oi_notB : OpI T rNotB notBO := by
  intro G H x y v u Q Qv rh rx ry ⟨a, b, e1, e2, q⟩ k
  subst e1 e2
  cases rx
  cases ry
  exact ⟨a, b, rfl, rfl, k _ _ G H (.bl _) rh (Keep.refl _ _) q⟩
def strsD : List D → Option (List Str)
  | [] => some []
  | .str x :: r => (strsD r).map (x :: ·)
  | _ :: _ => none
theorem strs_rv {G : GH} {H : Hp} : ∀ {ds : List D} {vs : List V} {ys : List Str}, RVs T G H ds vs → strsD ds = some ys → vs = ys.map V.str
  | [], _, _, .nil, h => by cases h; rfl
  | d :: ds, _, ys, .cons a b, h => by
    cases d with
    | str x =>
      unfold strsD at h
      cases e : strsD ds with
      | none => rw [e] at h; cases h
      | some cs =>
        rw [e] at h
        cases h
        cases a
        rw [strs_rv b e]
        rfl
    | _ => cases h
/-- a method of a text -/
abbrev OM := D → List D → GH → DK → Prop
def MtI (T : Tb) (ty : PySem.W.Frag → V → Hp → Prop) (r0 : V → List V → Hp → VK → Prop) (o : OM) : Prop := ∀ G H x ds v vs (Q : DK) (Qv : VK), RH T G H → RV T G H x v → RVs T G H ds vs → o x ds G Q →
  (∀ d w G' H', RV T G' H' d w → RH T G' H' → Keep G H G' H' → Q d G' → Qv w H') → r0 v vs H Qv
def wM (o : OM) (to : TEd) (t : TAd) : TEd := fun env G Q Ex => to env G (fun x G1 => t env G1 (fun ds G2 => o x ds G2 Q) Ex) Ex
/-- a method of texts: the receiver is one -/
def wMS (o : OM) (to : TEd) (t : TAd) : TEd := fun env G Q Ex => to env G (fun x G1 => (∃ z, x = .str z) ∧ t env G1 (fun ds G2 => o x ds G2 Q) Ex) Ex
theorem q_bmS {name : Str} {id : String} {r0 : V → List V → Hp → VK → Prop} {om : OM} {cpos : Pos} (h : PE X (.Call (.Attribute o name apos) (e :: es) [] cpos) (tBM X.K "str" r0 (liftE T W to) (liftA T W u))) (mi : MtI T (fun K v H => tyV K "str" v H) r0 om) : QE T X W (.Call (.Attribute o name apos) (e :: es) [] cpos) (wMS om to u) :=
  QE.of h fun env G σ H Q Ex Qv rs rh ex q k => intoE rs rh ex q fun x v G1 H1 rx rh1 k1 ⟨⟨z, ez⟩, q1⟩ => by
    subst ez
    cases rx
    exact ⟨rfl, intoA (rs.keep k1) rh1 (ex.keep k1) q1 fun ds vs G2 H2 rds rh2 k2 q2 => mi G2 H2 _ ds _ vs Q Qv rh2 (.str z) rds q2 fun d w G' H' rd rh3 k3 q3 => k d w G' H' rd rh3 ((k1.trans k2).trans k3) q3⟩
def joinO : OM := fun x ds G Q => match x, ds with
  | .str a, [l] => ∃ xs ys, topD G l = .lst xs ∧ strsD xs = some ys ∧ (ys.map (·.length)).sum + ys.length * a.length ≤ 16777216 ∧ Q (.str (Txt.join a ys)) G
  | _, _ => False
theorem mi_join {K : PySem.W.Frag} (hK : K = T.K) : MtI T (fun K v H => tyV K "str" v H) (fun x xs H Q => ∃ a p, ∃ ys : List Str, x = .str a ∧ xs = [.ref p] ∧ (SqL K H p (ys.map V.str) ∨ SqT K H p (ys.map V.str)) ∧
    (ys.map (·.length)).sum + ys.length * a.length ≤ 16777216 ∧ Q (.str (Txt.join a ys)) H) joinO := by
  intro G H x ds v vs Q Qv rh rx rds q k
  cases rx with
  | str a =>
    rcases rds with _ | ⟨rl, _ | ⟨_, _⟩⟩
    · exact False.elim q
    · obtain ⟨xs, ys, e1, e2, h, q⟩ := q
      obtain ⟨p, us, rfl, hx, r⟩ := topD_lst rh rl e1
      have := strs_rv r e2
      subst this
      exact ⟨a, p, ys, rfl, rfl, .inl (SqL.of hx), h, k _ _ G H (.str _) rh (Keep.refl _ _) q⟩
    · exact False.elim q
  | _ => cases ds <;> exact False.elim q
/-! ### methods of lists that change -/
def wML (o : Addr → List D → List D → GH → DK → Prop) (to : TEd) (t : TAd) : TEd := fun env G Q Ex => to env G (fun x G1 => ∃ a xs0, x = .ref a ∧ G1 a = some (.lst xs0) ∧ t env G1 (fun ds G2 => ∃ xs, G2 a = some (.lst xs) ∧ o a xs ds G2 Q) Ex) Ex
def appendO : Addr → List D → List D → GH → DK → Prop := fun a xs ds G Q => ∃ d, ds = [d] ∧ xs.length < sizeLine ∧ Q .non (gset G a (.lst (xs ++ [d])))
theorem q_append {cpos : Pos} (h : PE X (.Call (.Attribute o "append" apos) [e] [] cpos) (tBM X.K "list" rAppend (liftE T W to) (liftA T W u))) : QE T X W (.Call (.Attribute o "append" apos) [e] [] cpos) (wML appendO to u) :=
  QE.of h fun env G σ H Q Ex Qv rs rh ex q k => intoE rs rh ex q fun x v G1 H1 rx rh1 k1 ⟨a, xs0, ez, g0, q1⟩ => by
    subst ez
    cases rx
    obtain ⟨vs0, hx0, _, _⟩ := rh1 a _ g0
    refine ⟨.inl ⟨rfl, vs0, SqL.of hx0⟩, intoA (rs.keep k1) rh1 (ex.keep k1) q1 fun ds vs G2 H2 rds rh2 k2 ⟨xs, g2, d, ed, hl, q2⟩ => ?_⟩
    subst ed
    obtain ⟨us, hu, lu, ru⟩ := rh2 a _ g2
    rcases rds with _ | ⟨rd, _ | ⟨_, _⟩⟩
    rename_i v
    refine ⟨a, us, v, rfl, rfl, hu, by rw [← ru.length]; exact hl, k _ _ _ _ .non (rh2.put (d := .lst (xs ++ [d])) g2 ⟨us ++ [v], upd_same, by rw [List.length_append, List.length_singleton]; omega, (ru.append (.cons rd .nil)).keep (Keep.put g2)⟩) ((k1.trans k2).trans (Keep.put g2)) q2⟩
end
end DL
set_option Elab.async false
set_option linter.all false
set_option maxRecDepth 100000
set_option maxHeartbeats 4000000
namespace DL
open PySem PySem.Spec PyProof.Rows L2

/-! ### the end of a law's row -/
theorem guards_caller : callerA.guards = some [] := by
  first
    | rfl
    | decide
/-- the script as data -/
def scriptD (ns : List Int) : D := .frl (ns.map D.int)
theorem ints_rv {T : Tb} {G : GH} {H : Hp} : ∀ ns : List Int, RVs T G H (ns.map D.int) (ns.map V.int)
  | [] => .nil
  | n :: ns => .cons (.int n) (ints_rv ns)
/-- what the law's def promises: True for every script -/
def spLaw : DSp := fun ds G Q _ => ∃ ns : List Int, ds = [scriptD ns] ∧ ns.length ≤ 63 ∧ (∀ a, G a = none) ∧ ∀ G', Q (.bl true) G'
section
variable {T : Tb} {P : Program} {w : World} {mg mb : Str → Option Value} {k : Nat} {fa a : Addr} {fd : FuncData} {x : Str} {s₁ : Shared} {vs : List Value} {ns : List Int}
theorem lawG_at (H : Hp) (KX : T.K.In s₁.heap) (hns : s₁.heap.Ns mainGlobals mg) (hb : s₁.heap.Ns builtinsNs mb) (hbb : ∀ x : Str, x ≠ "__name__" → mb x = bootBuiltins x) (hlim : s₁.heap.NoLimit) (hg : s₁.gens = #[])
    (hd : s₁.heap.get? a = some { cls := .type "list", data := .seq vs.toArray }) (hl : ns.length ≤ 63) (hr : RoomG k callerA)
    (F : ∀ base : Heap, T.K.In base → base.Ns mainGlobals mg → FnG P w T.K mg base (L2.CX P w) k fa fd [x] (liftSp T spLaw)) (hbind : ∀ (s : Shared) (u : Value), BindsTo s fd ⟨[u], []⟩ [(x, u)])
    (only : ∀ b, H b = none ∨ (b = a ∧ ∃ o xs, H b = some (.frz o (.lst xs)))) (noK : H a ≠ none → T.K.lookup a = none) (hok : HOk P w H s₁.heap) (fz : FzL T.K (fun _ => none) H a (ns.map V.int)) :
    codeAny (model P w) callerA (.call (.ref fa) ⟨[.ref a], []⟩) (fun r s' => r = .ok (.ret (.bool true)) ∧ OldK s₁.heap s'.heap ∧ s'.os = s₁.os ∧ AllBare s'.gens) s₁ := by
  have atA : ∀ {b}, H b ≠ none → b = a := fun {b} h => (only b).elim (fun z => absurd z h) fun z => z.1
  have hid : ∀ {b : Addr} {o : Obj}, s₁.heap.get? b = some o → b ≠ a ∨ H a = none → (hidT s₁.heap H).get? b = some o := fun {b o} e h => hidT_get e (by
    rcases only b with z | z
    · exact z
    · rcases h with h | h
      · exact absurd z.1 h
      · rw [z.1]; exact h)
  have nsIn : ∀ {b : Addr} {m : Str → Option Value}, s₁.heap.Ns b m → (hidT s₁.heap H).Ns b m := fun {b m} h => by
    obtain ⟨o, es, ep, e, d, r⟩ := h
    refine ⟨o, es, ep, hid e (.inl ?_), d, r⟩
    rintro rfl
    rw [hd] at e
    cases e
    cases d
  have KB : T.K.In (hidT s₁.heap H) := fun b o e => hid (KX b o e) (by
    by_cases h : H a = none
    · exact .inr h
    · refine .inl ?_
      rintro rfl
      rw [noK h] at e
      cases e)
  have lim : (hidT s₁.heap H).NoLimit := let ⟨mc, h1, h2⟩ := hlim; ⟨mc, nsIn h1, h2⟩
  have e0 : Env0 P w T.K mg (hidT s₁.heap H) callerA [] s₁ H :=
    { frames := rfl, mod := ⟨KB, nsIn hns, ⟨mb, nsIn hb, hbb⟩, lim⟩, bs := fun b o e => of_hidT e, bsz := Nat.le_of_eq (hidT_size _ _), funs := trivial, frf := fun b h => absurd (show b ∈ ([] : List Addr) from h) (by simp), hok := hok, bare := .of_eq hg }
  have want : liftSp T spLaw [.ref a] H (fun v _ => v = .bl true) (fun _ _ _ => False) := by
    refine ⟨[scriptD ns], fun _ => none, fun d _ => d = .bl true, fun _ _ _ => False, .cons (.frl fz (by rw [List.length_map, sizeLine_eq]; omega) (ints_rv ns)) .nil, (fun b o e => nomatch e), ⟨ns, rfl, hl, fun _ => rfl, fun _ => rfl⟩, ?_, fun _ _ _ _ _ _ z => z.elim⟩
    rintro v H' ⟨d, G', r, _, _, e⟩
    subst e
    cases r
    rfl
  refine codeAny_mono ((F _ KB (nsIn hns)).run callerA [] s₁ H ⟨[.ref a], []⟩ [.ref a] [.ref a] _ _ hr e0 (hbind s₁ (.ref a)) (.cons rfl .nil) want) fun r s' h => ?_
  rcases r with er | (_ | _ | _ | u)
  · obtain ⟨_, _, _, _, _, _, _, _, _, _, _, _, z⟩ := h
    exact z.elim
  · exact False.elim h
  · exact False.elim h
  · exact False.elim h
  obtain ⟨v, H', os, bare, un, hok', r', q⟩ := h
  have q : v = .bl true := q
  subst q
  obtain rfl : u = Value.bool true := r'
  refine ⟨rfl, OldK.of_keep fun b o e => ?_, os, bare⟩
  rcases only b with z | ⟨_, ob, xs, z⟩
  · exact un.keep b o e z (fun h => absurd (show b ∈ ([] : List Addr) from h) (by simp)) (by simp)
  · have e1 := (hok b _ z).1
    have e2 := (hok' b _ (un.frzs b ob _ z)).1
    rw [e] at e1
    cases e1
    exact e2
theorem lawG_call (KX : T.K.In s₁.heap) (hns : s₁.heap.Ns mainGlobals mg) (hb : s₁.heap.Ns builtinsNs mb) (hbb : ∀ x : Str, x ≠ "__name__" → mb x = bootBuiltins x) (hlim : s₁.heap.NoLimit) (hg : s₁.gens = #[])
    (hd : s₁.heap.get? a = some { cls := .type "list", data := .seq vs.toArray }) (hi : IntsAre vs ns) (hl : ns.length ≤ 63) (hr : RoomG k callerA)
    (F : ∀ base : Heap, T.K.In base → base.Ns mainGlobals mg → FnG P w T.K mg base (L2.CX P w) k fa fd [x] (liftSp T spLaw)) (hbind : ∀ (s : Shared) (u : Value), BindsTo s fd ⟨[u], []⟩ [(x, u)]) :
    codeAny (model P w) callerA (.call (.ref fa) ⟨[.ref a], []⟩) (fun r s' => r = .ok (.ret (.bool true)) ∧ OldK s₁.heap s'.heap ∧ s'.os = s₁.os ∧ AllBare s'.gens) s₁ := by
  have rv := vals_ints hi
  have sz : ns.length ≤ sizeLine := by rw [sizeLine_eq]; omega
  cases hk : T.K.lookup a with
  | some o =>
    have e := KX a o hk
    rw [hd] at e
    cases e
    exact lawG_at (fun _ => none) KX hns hb hbb hlim hg hd hl hr F hbind (fun _ => .inl rfl) (fun z => absurd rfl z) (fun b u z => nomatch z)
      (.inr ⟨_, vs.toArray, _, hk, rfl, rfl, rfl, by rw [List.size_toArray, hi.length]; exact sz, by simpa using rv⟩)
  | none =>
    have atIs : (fun b => if b = a then some (HO.frz { cls := .type "list", data := .seq vs.toArray } (.lst (ns.map V.int))) else none : Hp) a = some (.frz { cls := .type "list", data := .seq vs.toArray } (.lst (ns.map V.int))) := if_pos rfl
    refine lawG_at (fun b => if b = a then some (.frz { cls := .type "list", data := .seq vs.toArray } (.lst (ns.map V.int))) else none) KX hns hb hbb hlim hg hd hl hr F hbind (fun b => ?_) (fun _ => hk) (fun b u z => ?_) (.inl ⟨rfl, _, atIs⟩)
    · by_cases h : b = a
      · subst h; exact .inr ⟨rfl, _, _, atIs⟩
      · exact .inl (if_neg h)
    · by_cases h : b = a
      · subst h
        rw [atIs] at z
        cases z
        exact ⟨hd, by rw [List.length_map]; exact sz, vs, _, rv, hd⟩
      · have z' : (none : Option HO) = some u := (if_neg h).symm.trans z
        cases z'
end
theorem lawG_walk {l : PySem.W.OpenLaw} {k : Nat} {q : Program} {loose : List Str} {XP : (Str → Option Value) → Heap → Prop} {YP : World → Heap → Prop} {d : DefRec} {K : Params → PySem.W.Frag} {cls : Params → Nat → Addr} {flds : Nat → List Str} {x : Str}
    (hn : l.most = some 63) (hdf : d.params.defaults = []) (hr : RoomG k callerA) (hY : ∀ (w : World) (h : Heap), YP w h → (K w.params).In h)
    (F : ∀ (w : World) (mg : Str → Option Value) (fa : Addr) (h : Heap), (K w.params).In h → h.Ns mainGlobals mg → mg d.name = some (.ref fa) →
      ∃ fd : FuncData, (∀ (s : Shared) (u : Value), BindsTo s fd ⟨[u], []⟩ [(x, u)]) ∧
        ∀ base : Heap, (K w.params).In base → base.Ns mainGlobals mg → FnG l.prog w (K w.params) mg base (L2.CX l.prog w) k fa fd [x] (liftSp ⟨K w.params, cls w.params, flds⟩ spLaw)) :
    PySem.W.WalkO q loose XP YP l.row.toRowW d [] (fun f vs => PySem.call f vs) := by
  refine Att.attach_call hn hdf fun w s₀ s₁ mg mb fa o pm cd doc a vs ns G Y ho hd hcd hmg hobj hints hlen hg => ?_
  have KX := hY w _ Y
  obtain ⟨fd, hb, hF⟩ := F w mg fa _ KX G.T.g hmg
  exact lawG_call (T := ⟨K w.params, cls w.params, flds⟩) KX G.T.g G.T.b G.T.builtins G.T.nolimit hg hobj hints hlen hr hF hb
end DL
set_option Elab.async false
set_option linter.all false
set_option maxRecDepth 100000
set_option maxHeartbeats 4000000
namespace DL
open PySem PySem.Spec PyProof.Rows L2
/-- a def that may be called -/
structure Cal (T : Tb) (P : Program) (w : World) (mg : Str → Option Value) (base : Heap) (x : Str) (k : Nat) (n : Nat) (sp : DSp) : Prop where
  ex : ∃ f fd ps, ps.length = n ∧ FnG P w T.K mg base (L2.CX P w) k f fd ps (liftSp T sp) ∧ mg x = some (.ref f) ∧ PySem.W.keepIn T.K (.ref f) = true ∧ Binds T.K fd ps []
section
variable {T : Tb} {X : Cx} {W : WX} {k n : Nat} {sp : DSp} {x : Str} {p pos : Pos} {e : Expr} {es : List Expr} {u : TAd} {te : TEd}
theorem qcl (tk : Takes X W) (hK : X.K = T.K) (C : Cal T X.prog X.w X.mg X.base x k n sp) (hr : RoomG k X.A) (hg : Gl X x)
    (ha : QA T X W (e :: es) u) (hdb : (x == ("__debug__" : Str)) = false := by decide) (he : starEach (e :: es) X.env = (false, eval e X.env) :: starEach es X.env := by rfl) (hpl : (backTo pos (starEach es X.env)).any (·.1) = false := by rfl) :
    QE T X W (.Call (.Name x p) (e :: es) [] pos) (wFn sp u) := by
  obtain ⟨f, fd, ps, _, F, hm, hk, hb⟩ := C.ex
  rw [← hK] at F hk hb
  exact q_call tk F hr hg hm hk hb ha hdb he hpl
theorem qcl0 (tk : Takes X W) (hK : X.K = T.K) (C : Cal T X.prog X.w X.mg X.base x k n sp) (hr : RoomG k X.A) (hg : Gl X x) (hdb : (x == ("__debug__" : Str)) = false := by decide) :
    QE T X W (.Call (.Name x p) [] [] pos) (wFn sp wNil) := by
  obtain ⟨f, fd, ps, _, F, hm, hk, hb⟩ := C.ex
  rw [← hK] at F hk hb
  exact q_call0 tk F hr hg hm hk hb hdb
theorem q_bltT {n' : String} (hg : Gl X x) (hm : X.mg x = none) (hv : bootBuiltins x = some (.type n')) (hn : x ≠ "__name__" := by decide) (hd : (x == ("__debug__" : Str)) = false := by decide) : QE T X W (.Name x pos) (wC (.ty n')) :=
  qc (pe_bltn (v := .ty n') hg hm hv rfl hn hd) fun _ _ => .ty n'
end
end DL
set_option Elab.async false
set_option linter.all false
set_option maxRecDepth 100000
set_option maxHeartbeats 4000000
namespace DL
open PySem PySem.Spec PyProof.Rows L2
/-! ### a sequence times an int -/
def rMulS : R2 := fun x y H Q => ∃ z k, x = .str z ∧ y = .int k ∧ MulOk z k ∧ Q (.str (Txt.mul z k)) H
theorem op_mulS {X : Cx} : OpR X (binaryOp .Mult) rMulS := by
  intro pins s σ H x y v u Q I rx ry ⟨z, k, ex, ey, ok, q⟩
  subst ex ey
  obtain ⟨t, rfl⟩ := rx
  obtain ⟨t2, rfl⟩ := ry
  exact SB.mul ok fun t' kk => ⟨.str _, H, I.tok _, ⟨_, rfl⟩, q⟩
def rRepW (K : PySem.W.Frag) : R2 := fun x y H Q => ∃ l k xs, x = .ref l ∧ y = .int k ∧ SqT K H l xs ∧ xs ≠ [] ∧ 2 ≤ k ∧ xs.length * k.toNat ≤ 1000000 ∧ ∀ p, H p = none → Q (.ref p) (upd H p (.tup (List.replicate k.toNat xs).flatten))
theorem op_repW {X : Cx} : OpR X (binaryOp .Mult) (rRepW X.K) := by
  intro pins s σ H x y v u Q I rx ry ⟨l, k, xs, ex, ey, hT, hne, hk, hz, q⟩
  subst ex ey
  cases rx
  obtain ⟨t, rfl⟩ := ry
  obtain ⟨its, r, ⟨⟨cls, dd, data, sl⟩, ho, hc, n, hd⟩, hs⟩ := I.tuple hT
  simp only at hc hd
  subst hc hd
  have len : its.length = xs.length := r.length.symm
  have pos : 0 < xs.length := List.length_pos_iff.mpr hne
  have some1 : its.toArray.isEmpty = false := by
    cases its with
    | nil => exact absurd (show (0 : Nat) = xs.length from len) (by omega)
    | cons _ _ => rfl
  have size : its.toArray.size = xs.length := by rw [List.size_toArray]; exact len
  have kk : ((k.toNat : Nat) : Int) = k := Int.toNat_of_nonneg (by omega)
  have all : ((its.toArray.size : Nat) : Int) * k ≤ 1000000 := by
    rw [size, ← kk]
    have h := Int.ofNat_le.mpr hz
    rw [Int.natCast_mul] at h
    exact h
  have klt : k.toNat ≤ 1000000 := Nat.le_trans (Nat.le_mul_of_pos_left _ pos) hz
  have flat : ∀ {α : Type} (ys : List α), ys.length = xs.length → (List.replicate k.toNat ys).flatten.length ≤ sizeLine := fun ys e => by
    rw [PyProof.Rows.lm_len_rep_flat, e, Nat.mul_comm, sizeLine_eq]
    omega
  have d0 : (decide (k < -(2 ^ 63)) || decide (k ≥ 2 ^ 63)) = false := by
    have a : decide (k < -(2 ^ 63)) = false := decide_eq_false (by omega)
    have b : decide (k ≥ 2 ^ 63) = false := decide_eq_false (by omega)
    rw [a, b]; rfl
  have d1 : (its.toArray.isEmpty || k == 1) = false := by
    have a : (k == 1) = false := beq_eq_false_iff_ne.mpr (by omega)
    rw [some1, a]; rfl
  have d2 : (decide (k ≤ 0) || its.toArray.isEmpty) = false := by
    have a : decide (k ≤ 0) = false := decide_eq_false (by omega)
    rw [some1, a]; rfl
  have d4 : Builtin.Tuple.tupleTooMany (((its.toArray.size : Nat) : Int) * k) = false := by
    unfold Builtin.Tuple.tupleTooMany
    exact decide_eq_false (by rw [sizeLine_eq]; omega)
  have lands : EP X pins σ Q (Value.ref s.heap.objs.size) { s with heap := s.heap.push { cls := Value.type "tuple", data := Data.seq (List.foldl (fun x1 x2 => x1 ++ x2) #[] (List.replicate k.toNat its.toArray)) }, toks := s.toks } := by
    rw [size_rep]
    exact ⟨.ref s.heap.objs.size, _, I.laid (t' := s.toks) (o := .tup (List.replicate k.toNat xs).flatten) (fun b ob e => Heap.get?_push_of_some _ e) (Nat.le_refl _) ⟨flat xs rfl, _, r.rep k.toNat, IsTup.new _ _⟩, rfl, q _ (I.hok.fresh (Nat.le_refl _))⟩
  exact wpAny_binaryOp_repeat_ref (T := "tuple") (U := "int") (by decide) ⟨_, ho, rfl⟩ (fun s' => typeIs_int s' k t) noFill_tuple_mul F.fills_int_mul F.slot_int_rmul repeat_tuple
    F.slot_int_index.lookup (call_meets F.slot_int_rmul (typeIs_int s k t) F.entry_int_rmul (F.args_int_rmul_2 _ _) (int_rmul_tuple k t l its.toArray n dd sl)
      ⟨ho, rfl, ⟨_, ho, rfl⟩, call_meets F.slot_tuple_mul ⟨_, ho, rfl⟩ F.entry_tuple_mul (F.args_tuple_mul_2 _ _)
        (tuple_mulW l its.toArray n dd sl k t d0 d1 d2 (by omega) d4 (by rw [size_rep, List.size_toArray]; exact flat its len)) ⟨ho, lands⟩⟩)
theorem RVs.rep {T : Tb} {G : GH} {H : Hp} {ds : List D} {vs : List V} (r : RVs T G H ds vs) : ∀ n : Nat, RVs T G H (List.replicate n ds).flatten (List.replicate n vs).flatten
  | 0 => .nil
  | n + 1 => by
    rw [List.replicate_succ, List.replicate_succ, List.flatten_cons, List.flatten_cons]
    exact r.append (r.rep n)
def mulI (k : Int) (x : D) (G : GH) (Q : DK) : Prop := match x with
  | .int i => (CMulW i k ∨ CMul i k) ∧ Q (.int (i * k)) G
  | .lst ds => -(2 ^ 63) ≤ k ∧ k < 2 ^ 63 ∧ ds.length * k.toNat ≤ sizeLine ∧ Q (.lst (List.replicate k.toNat ds).flatten) G
  | .tup ds => ds ≠ [] ∧ 2 ≤ k ∧ ds.length * k.toNat ≤ 1000000 ∧ Q (.tup (List.replicate k.toNat ds).flatten) G
  | .str z => MulOk z k ∧ Q (.str (Txt.mul z k)) G
  | _ => False
def mulDO : O2 := fun x y G Q => match y with
  | .int k => mulI k x G Q
  | _ => False
def rMulD (K : PySem.W.Frag) : R2 := rOr (rI (fun i j => CMulW i j ∨ CMul i j) fun i j => .int (i * j)) (rOr rRep (rOr (rRepW K) rMulS))
theorem op_mulI {X : Cx} : OpR X (binaryOp .Mult) (rI (fun i j => CMulW i j ∨ CMul i j) fun i j => .int (i * j)) := by
  intro pins s σ H x y v u Q I rx ry ⟨i, j, e1, e2, c, q⟩
  rcases c with c | c
  · exact op_mulW pins s σ H x y v u Q I rx ry ⟨i, j, e1, e2, c, q⟩
  · exact op_mul pins s σ H x y v u Q I rx ry ⟨i, j, e1, e2, c, q⟩
theorem op_mulD {X : Cx} : OpR X (binaryOp .Mult) (rMulD X.K) := op_mulI.or (op_rep.or (op_repW.or op_mulS))
theorem oi_mulD {T : Tb} {K : PySem.W.Frag} (hK : K = T.K) : OpI T (rMulD K) mulDO := by
  intro G H x y v u Q Qv rh rx ry q k
  subst hK
  cases ry with
  | int j =>
    have q : mulI j x G Q := q
    cases rx with
    | int i => exact .inl ⟨i, j, rfl, rfl, q.1, k _ _ G H (.int _) rh (Keep.refl _ _) q.2⟩
    | lst g h l r =>
      rename_i p xs ds _
      obtain ⟨a, b, c, q⟩ := q
      have lz : (List.replicate j.toNat ds).flatten.length ≤ sizeLine := by rw [PyProof.Rows.lm_len_rep_flat, Nat.mul_comm]; exact c
      exact .inr (.inl ⟨_, j, _, rfl, rfl, h, a, b, by rw [← r.length]; exact c, fun p np => k _ _ G _ (.lst (rh.fresh np) upd_same lz ((r.rep _).keep (Keep.new np))) (rh.new np) (Keep.new np) q⟩)
    | tup h l r =>
      rename_i p xs ds _
      obtain ⟨a, b, c, q⟩ := q
      have lz : (List.replicate j.toNat ds).flatten.length ≤ sizeLine := by rw [PyProof.Rows.lm_len_rep_flat, Nat.mul_comm, sizeLine_eq]; omega
      refine .inr (.inr (.inl ⟨_, j, _, rfl, rfl, h.sq, fun e => a ?_, b, by rw [← r.length]; exact c, fun p np => k _ _ G _ (.tup (.inl ⟨rh.fresh np, .of upd_same⟩) lz ((r.rep _).keep (Keep.new np))) (rh.new np) (Keep.new np) q⟩))
      have := r.length
      rw [e] at this
      exact List.eq_nil_of_length_eq_zero this
    | str z => exact .inr (.inr (.inr ⟨z, j, rfl, rfl, q.1, k _ _ G H (.str _) rh (Keep.refl _ _) q.2⟩))
    | _ => exact False.elim q
  | _ => exact False.elim q
/-! ### {k: v, ..} -/
def wPairs : List (TEd × TEd) → Ev → GH → (List (D × D) → GH → Prop) → DX → Prop
  | [], _, G, Q, _ => Q [] G
  | (tk, tv) :: r, env, G, Q, Ex => tk env G (fun x G1 => tv env G1 (fun y G2 => wPairs r env G2 (fun ps G3 => Q ((x, y) :: ps) G3) Ex) Ex) Ex
def keyD : D → Option Key
  | .int i => some (.inl i)
  | .str x => some (.inr x)
  | _ => none
def keysD : List (D × D) → Option (List Key)
  | [] => some []
  | (k, _) :: r => match keyD k, keysD r with
    | some a, some as => some (a :: as)
    | _, _ => none
inductive RPs (T : Tb) (G : GH) (H : Hp) : List (D × D) → List (V × V) → Prop
  | nil : RPs T G H [] []
  | cons {a b : D} {x y : V} {r : List (D × D)} {s : List (V × V)} : RV T G H a x → RV T G H b y → RPs T G H r s → RPs T G H ((a, b) :: r) ((x, y) :: s)
theorem keys_rv {T : Tb} {G : GH} {H : Hp} : ∀ {ps : List (D × D)} {vs : List (V × V)} {ks : List Key}, RPs T G H ps vs → keysD ps = some ks → vs.map (·.1) = ks.map kV ∧ ks.length = vs.length ∧ RVs T G H (ps.map (·.2)) (vs.map (·.2))
  | _, _, ks, .nil, h => by cases h; exact ⟨rfl, rfl, .nil⟩
  | _, _, ks, .cons (a := a) (b := b) (r := r) ra rb rr, h => by
    unfold keysD at h
    cases e1 : keyD a with
    | none => rw [e1] at h; simp at h
    | some k1 =>
      cases e2 : keysD r with
      | none => rw [e1, e2] at h; simp at h
      | some kr =>
        rw [e1, e2] at h
        cases h
        obtain ⟨i1, i2, i3⟩ := keys_rv rr e2
        refine ⟨?_, by rw [List.length_cons, List.length_cons, i2], .cons rb i3⟩
        rw [List.map_cons, List.map_cons, i1]
        congr 1
        cases ra with
        | int i => cases e1; rfl
        | str x => cases e1; rfl
        | _ => cases e1
theorem merge_zip : ∀ (ks : List Key) (xs : List V) (acc : List (Key × V)), (acc.map (·.1) ++ ks).Nodup → ks.length = xs.length → mergeK acc (ks.zip xs) = acc ++ ks.zip xs
  | [], xs, acc, _, _ => by
    show acc = acc ++ []
    rw [List.append_nil]
  | k :: ks, [], _, _, h => nomatch h
  | k :: ks, x :: xs, acc, hn, hl => by
    have hk : k ∉ acc.map (·.1) := fun hm => by
      have := (List.nodup_append.mp hn).2.2
      exact this k hm k List.mem_cons_self rfl
    have ep : putK acc k x = acc ++ [(k, x)] := by
      unfold putK
      rw [if_neg]
      intro h
      obtain ⟨kv, h1, h2⟩ := List.any_eq_true.mp h
      exact hk (List.mem_map.mpr ⟨kv, h1, of_decide_eq_true h2⟩)
    show mergeK (putK acc k x) (ks.zip xs) = acc ++ ((k, x) :: ks.zip xs)
    rw [ep, merge_zip ks xs (acc ++ [(k, x)]) (by rw [List.map_append]; simpa using hn) (Nat.succ.inj hl), List.append_assoc]
    rfl
structure QP (T : Tb) (X : Cx) (W : WX) (pos : Pos) (ks : List (Option Expr)) (vs : List Expr) (t : List (TEd × TEd)) : Prop where
  pp : PPs X pos ks vs (t.map fun p => (liftE T W p.1, liftE T W p.2))
section
variable {T : Tb} {X : Cx} {W : WX} {pos : Pos} {ks : List (Option Expr)} {vs : List Expr} {a b k v : Expr} {tk tv ta tb : TEd} {ps : List (TEd × TEd)}
theorem q_mulD (hK : X.K = T.K) (ha : QE T X W a ta) (hb : QE T X W b tb) : QE T X W (.BinOp a .Mult b pos) (wOp mulDO ta tb) := q_op op_mulD (oi_mulD hK) ha hb
theorem qp_nil : QP T X W pos [] [] [] := ⟨pps_nil⟩
theorem qp_cons (hk : QE T X W k tk) (hv : QE T X W v tv) (h : QP T X W pos ks vs ps) : QP T X W pos (some k :: ks) (v :: vs) ((tk, tv) :: ps) := ⟨pps_cons hk.pe hv.pe h.pp⟩
theorem intoP {σ : List (Option V)} {Ex : DX} {env : Ev} : ∀ (ps : List (TEd × TEd)) {G : GH} {H : Hp} {Q : List (D × D) → GH → Prop} {Qv : List (V × V) → Hp → Prop}, RS T G H env σ → RH T G H → ExOk T W G H σ Ex → wPairs ps env G Q Ex →
    (∀ ds vs G' H', ds.length = ps.length → RPs T G' H' ds vs → RH T G' H' → Keep G H G' H' → Q ds G' → Qv vs H') → tPairs (ps.map fun p => (liftE T W p.1, liftE T W p.2)) σ H Qv
  | [], G, H, Q, Qv, rs, rh, ex, q, kk => kk [] [] G H rfl .nil rh (Keep.refl _ _) q
  | (tk, tv) :: ps, G, H, Q, Qv, rs, rh, ex, q, kk => intoE rs rh ex q fun x xv G1 H1 rx rh1 k1 q1 => intoE (rs.keep k1) rh1 (ex.keep k1) q1 fun y yv G2 H2 ry rh2 k2 q2 =>
    intoP ps (rs.keep (k1.trans k2)) rh2 (ex.keep (k1.trans k2)) q2 fun ds vs G3 H3 hl rr rh3 k3 q3 => kk _ _ G3 H3 (congrArg (· + 1) hl) (.cons ((rx.keep k2).keep k3) (ry.keep k3) rr) rh3 ((k1.trans k2).trans k3) q3
theorem zip_keys : ∀ (vs : List (V × V)) (ks : List Key), vs.map (·.1) = ks.map kV → ks.length = vs.length → vs = (ks.zip (vs.map (·.2))).map fun kv => (kV kv.1, kv.2)
  | [], [], _, _ => rfl
  | [], _ :: _, _, h => nomatch h
  | _ :: _, [], _, h => nomatch h
  | (x, y) :: vs, k :: ks, h, hl => by
    have h1 := List.cons.inj h
    have e : x = kV k := h1.1
    rw [List.map_cons, List.zip_cons_cons, List.map_cons, ← zip_keys vs ks h1.2 (Nat.succ.inj hl), e]
/-- a display of distinct keys, not changed any more -/
def wDisp (ps : List (TEd × TEd)) : TEd := fun env G Q Ex => ∀ p, G p = none → wPairs ps env (gset G p (.dic [] [])) (fun prs G2 => G2 p = some (.dic [] []) ∧ ∃ ks, keysD prs = some ks ∧ ks.Nodup ∧ Q (.dic ks (prs.map (·.2))) (gdel G2 p)) Ex
/-- .. that may be changed -/
def wDispM (ps : List (TEd × TEd)) : TEd := fun env G Q Ex => ∀ p, G p = none → wPairs ps env (gset G p (.dic [] [])) (fun prs G2 => G2 p = some (.dic [] []) ∧ ∃ ks, keysD prs = some ks ∧ ks.Nodup ∧ Q (.ref p) (gset G2 p (.dic ks (prs.map (·.2))))) Ex
theorem disp_in {fin : Addr → List Key → List D → D} {gfin : Addr → GH → List Key → List D → GH} {σ : List (Option V)} {Ex : DX} {env : Ev} {G : GH} {H : Hp} {Q : D → GH → Prop} {Qv : VK} (hp15 : ps.length ≤ 15)
    (hfin : ∀ (p : Addr) (ks : List Key) (ds : List D) (G : GH) (H : Hp), RH T (gset G p (.dic ks ds)) H → RV T (gfin p G ks ds) H (fin p ks ds) (.ref p) ∧ RH T (gfin p G ks ds) H ∧ ∀ G1 H1, Keep G1 H1 (gset G p (.dic ks ds)) H → Keep G1 H1 (gfin p G ks ds) H)
    (rs : RS T G H env σ) (rh : RH T G H) (ex : ExOk T W G H σ Ex)
    (q : ∀ p, G p = none → wPairs ps env (gset G p (.dic [] [])) (fun prs G2 => G2 p = some (.dic [] []) ∧ ∃ ks, keysD prs = some ks ∧ ks.Nodup ∧ Q (fin p ks (prs.map (·.2))) (gfin p G2 ks (prs.map (·.2)))) Ex)
    (kk : ∀ d v G' H', RV T G' H' d v → RH T G' H' → Keep G H G' H' → Q d G' → Qv v H') : tDisp (ps.map fun p => (liftE T W p.1, liftE T W p.2)) σ H Qv := by
  intro p np
  have kn : Keep G H (gset G p (.dic [] [])) (upd H p (.dK [])) := Keep.newG np
  have rhn : RH T (gset G p (.dic [] [])) (upd H p (.dK [])) := rh.newG (d := .dic [] []) np ⟨[], upd_same, rfl, .nil⟩
  refine intoP ps (rs.keep kn) rhn (ex.keep kn) (q p (rh.fresh np)) fun ds vs G2 H2 hl rr rh2 k2 ⟨g2, kl, e1, nd, q2⟩ => ?_
  obtain ⟨xs0, hx0, hl0, _⟩ := rh2 p _ g2
  obtain ⟨m1, m2, m3⟩ := keys_rv rr e1
  refine ⟨hx0, kl.zip (vs.map (·.2)), zip_keys vs kl m1 m2, ?_, ?_⟩
  · rw [List.length_zip, List.length_map, m2, Nat.min_self]
    have : ds.length = vs.length := by
      have := m3.length
      simpa using this
    omega
  · have em : mergeK [] (kl.zip (vs.map (·.2))) = kl.zip (vs.map (·.2)) := merge_zip kl (vs.map (·.2)) [] nd (by rw [List.length_map]; exact m2)
    rw [em]
    have kp : Keep G2 H2 (gset G2 p (.dic kl (ds.map (·.2)))) (upd H2 p (.dK (kl.zip (vs.map (·.2))))) := Keep.put g2
    have rp : RH T (gset G2 p (.dic kl (ds.map (·.2)))) (upd H2 p (.dK (kl.zip (vs.map (·.2))))) := rh2.put (d := .dic kl (ds.map (·.2))) g2 ⟨vs.map (·.2), upd_same, by rw [List.length_map]; exact m2, m3.keep kp⟩
    obtain ⟨f1, f2, f3⟩ := hfin p kl (ds.map (·.2)) G2 _ rp
    exact kk _ _ _ _ f1 f2 (f3 _ _ ((kn.trans k2).trans kp)) q2
theorem gset_gdel {G : GH} {p : Addr} {o : DO} : gdel (gset G p o) p = gdel G p := by
  funext b
  unfold gdel gset
  split <;> rfl
theorem q_disp (hK : QP T X W pos ks vs ps) (hall : ks.all (·.isSome) = true := by rfl) (hl : ks.length = vs.length := by rfl) (h0 : ks ≠ [] := by exact List.cons_ne_nil _ _) (h15 : ks.length ≤ 15 := by decide) (hp : ps.length ≤ 15 := by decide) :
    QE T X W (.Dict ks vs pos) (wDisp ps) :=
  QE.of (pe_disp hK.pp hall hl h0 h15) fun env G σ H Q Ex Qv rs rh ex q k =>
    disp_in (fin := fun _ ks ds => .dic ks ds) (gfin := fun p G _ _ => gdel G p) hp (fun p ks ds G H rh => by
      obtain ⟨xs, hx, l, r⟩ := rh p _ gset_same
      rw [← gset_gdel (G := G) (p := p) (o := .dic ks ds)]
      exact ⟨.dic gdel_same hx rfl l (r.keep Keep.freeze), rh.freeze p, fun G1 H1 k => k.trans Keep.freeze⟩) rs rh ex q k
theorem q_dispM (hK : QP T X W pos ks vs ps) (hall : ks.all (·.isSome) = true := by rfl) (hl : ks.length = vs.length := by rfl) (h0 : ks ≠ [] := by exact List.cons_ne_nil _ _) (h15 : ks.length ≤ 15 := by decide) (hp : ps.length ≤ 15 := by decide) :
    QE T X W (.Dict ks vs pos) (wDispM ps) :=
  QE.of (pe_disp hK.pp hall hl h0 h15) fun env G σ H Q Ex Qv rs rh ex q k =>
    disp_in (fin := fun p _ _ => .ref p) (gfin := fun p G ks ds => gset G p (.dic ks ds)) hp (fun p ks ds G H rh => ⟨.ref p, rh, fun _ _ k => k⟩) rs rh ex q k
end
end DL
set_option Elab.async false
set_option linter.all false
set_option maxRecDepth 100000
set_option maxHeartbeats 4000000
namespace DL
open PySem PySem.Spec PyProof.Rows L2
theorem RoomG.hu {k : Nat} {A : Around} (r : RoomG k A) : A.units + 64 < cLine := by
  have := r.r.un
  omega
/-! ### a def with what it stands for -/
theorem okF {T : Tb} {P : Program} {w : World} {mg : Str → Option Value} {base : Heap} {k : Nat} {x qual : Str} {params : Arguments} {st : List Stmt} {scope : Scope} {dvs : List V} {kws : List (Str × V)} {f : Addr} {fd : FuncData} {N ps : List Str} {sp : DSp} {t : TSd}
    (F : FunD T.K x qual params st scope dvs kws f fd) (S : FnScope N ps scope) (len : ∀ ds G Q Ex, sp ds G Q Ex → ds.length = ps.length)
    (body : ∀ (cdv : Value) (A : Around) (outer : List Env) (s : Shared) (H : Hp) (E : XK), RoomG k (A.deeper (envOfC qual scope s.heap.objs.size f cdv)) →
      QSs T (cxOf (L2.CX P w) P w T.K mg base N qual scope f cdv A outer s H E) (fun cls d _ H => E cls d H) st t)
    (read : ∀ ds G Q Ex, sp ds G Q Ex → t { nx := fun _ G' => Q .non G', rt := Q, bk := fun _ _ => False, ct := fun _ _ => False, ex := fun c xs _ G' => Ex c xs G' } (startD N ds) G) :
    FnG P w T.K mg base (L2.CX P w) (k + 1) f fd ps (liftSp T sp) := by
  obtain ⟨oc, od, dV, kV, doc, pm, an, cdv, ct, osl, rfl, lk, hcd, _, _⟩ := F.ex
  refine ⟨fun vs H Q E ⟨ds, G, Q', Ex, r, _, h, _⟩ => r.length.symm.trans (len _ _ _ _ h), fun A outer s H args us vs Q E rg e0 bind rv ⟨ds, G, Q', Ex, r, rh, h, q1, q2⟩ => ?_⟩
  have hl : vs.length = ps.length := r.length.symm.trans (len _ _ _ _ h)
  have here : ∀ b o, base.get? b = some o → s.heap.get? b = some o := fun b o e => (e0.bs b o e).1
  have KX : T.K.In s.heap := e0.mod.kin.keeps here
  have scopes : ∀ y ∈ ps.zip us, scope.names.lookup y.1 = some .local ∨ (scope.names.lookup y.1 = some .cell ∧ ((cellsFrom (s.heap.objs.size + 1) scope.names []).lookup y.1).isSome = true) := by
    rintro ⟨n, v⟩ hy
    rcases S.par n (List.of_mem_zip hy).1 with q | q
    · exact .inl q
    · exact .inr ⟨q, PySem.W.cellsFrom_some _ _ _ (.inl q)⟩
  refine codeAny_call_function rg.r.depth (KX _ _ lk) rfl S.co S.gen rfl (PySem.W.codeRec_of KX hcd) (bind _ _ _ _ ?_)
  refine wpAny_newFunctionEnv_cells S.kind scopes fun env he s1 inn => ?_
  subst he
  refine ⟨(e0.mod.nolimit.keeps here).keeps inn.toInCall.keep, codeAny_func ?_⟩
  have I := inv_start (CX := L2.CX P w) (cd := cdv) (f := f) (E := E) S rg.r.hd e0 hl rv inn
  have B := (body cdv A outer s H E ⟨rg.r.deeper _, (guards_deeper A _).trans rg.g⟩).pss
  have start : liftS T (fun cls d _ H => E cls d H) t { nx := fun _ H' => Q .non H', rt := Q } (L2.start N vs) H := by
    refine ⟨startD N ds, G, _, start_rs r, rh, fun c xs env' G' cl dx σ' H' e rx rs rh' kp => q2 c xs G' cl dx H' e rx rh' kp, ⟨?_, ?_, ?_, ?_⟩, read ds G Q' Ex h⟩
    · exact fun _ G' _ H' _ b c q => q1 _ _ ⟨.non, G', .non, b, c, q⟩
    · exact fun d v G' H' a b c q => q1 _ _ ⟨d, G', a, b, c, q⟩
    · exact fun _ _ _ _ _ _ _ z => z.elim
    · exact fun _ _ _ _ _ _ _ z => z.elim
  refine wpAny_mono (B.run [] s1 (L2.start N vs) H _ I start) (fun fl s' ends => ?_) fun _ _ z => z
  cases fl with
  | ret u => exact let ⟨v, _, H', J, r', q⟩ := ends; ⟨v, H', J.os, J.bare, J.base, J.hok, r', q⟩
  | next => exact let ⟨_, H', J, q⟩ := ends; ⟨V.non, H', J.os, J.bare, J.base, J.hok, rfl, q⟩
  | brk => exact let ⟨_, _, _, q⟩ := ends; q.elim
  | cont => exact let ⟨_, _, _, q⟩ := ends; q.elim
theorem cal_of {T : Tb} {P : Program} {w : World} {mg : Str → Option Value} {base : Heap} {k : Nat} {x q : Str} {params : Arguments} {st : List Stmt} {scope : Scope} {f : Addr} {fd : FuncData} {ps : List Str} {sp : DSp}
    (F : FunD T.K x q params st scope [] [] f fd) (G : FnG P w T.K mg base (L2.CX P w) k f fd ps (liftSp T sp)) (hm : mg x = some (.ref f)) (b : Binds T.K fd ps []) : Cal T P w mg base x k ps.length sp :=
  ⟨f, fd, ps, rfl, G, hm, F.kp, b⟩
/-! ### built-in functions -/
section
variable {T : Tb} {X : Cx} {W : WX} {pos p p2 apos : Pos} {e a b c : Expr} {es : List Expr} {u : TAd} {te ta tb tc : TEd}
theorem q_gstr {x z : Str} (hg : Gl X x) (hm : ∃ t, X.mg x = some (.str z t)) (hd : (x == ("__debug__" : Str)) = false := by decide) : QE T X W (.Name x pos) (wC (.str z)) := by
  obtain ⟨t, hm⟩ := hm
  exact q_glob (v := .str z) hg hm ⟨t, rfl⟩ (fun _ _ => .str z) hd
theorem q_gint {x : Str} {i : Int} (hg : Gl X x) (hm : ∃ t, X.mg x = some (.int i t)) (hd : (x == ("__debug__" : Str)) = false := by decide) : QE T X W (.Name x pos) (wC (.int i)) := by
  obtain ⟨t, hm⟩ := hm
  exact q_glob (v := .int i) hg hm ⟨t, rfl⟩ (fun _ _ => .int i) hd
theorem q_eq (hK : X.K = T.K) (hu : X.A.units + 64 < cLine) (ha : QE T X W a ta) (hb : QE T X W b tb) (hm : behindInMarks .Eq b = false := by first | exact nomark _ | rfl) : QE T X W (.Compare a [.Eq] [b] pos) (wOp eqO ta tb) := q_cmp (op_eqO hu) (oi_eq hK) ha hb hm
theorem q_ne (hK : X.K = T.K) (hu : X.A.units + 64 < cLine) (ha : QE T X W a ta) (hb : QE T X W b tb) (hm : behindInMarks .NotEq b = false := by first | exact nomark _ | rfl) : QE T X W (.Compare a [.NotEq] [b] pos) (wOp neO ta tb) := q_cmp (op_neO hu) (oi_ne hK) ha hb hm
theorem qt_eq (hK : X.K = T.K) (hu : X.A.units + 64 < cLine) (ha : QE T X W a ta) (hb : QE T X W b tb) (hm : behindInMarks .Eq b = false := by first | exact nomark _ | rfl) : QT T X W (.Compare a [.Eq] [b] pos) (wTest (wOp eqO ta tb)) := qt_cmp (op_eqO hu) (oi_eq hK) ha hb hm
theorem qt_ne (hK : X.K = T.K) (hu : X.A.units + 64 < cLine) (ha : QE T X W a ta) (hb : QE T X W b tb) (hm : behindInMarks .NotEq b = false := by first | exact nomark _ | rfl) : QT T X W (.Compare a [.NotEq] [b] pos) (wTest (wOp neO ta tb)) := qt_cmp (op_neO hu) (oi_ne hK) ha hb hm
theorem q_notS (ha : QE T X W a ta) (hb : QE T X W b tb) (hm : behindInMarks .NotIn b = false := by first | exact nomark _ | rfl) : QE T X W (.Compare a [.NotIn] [b] pos) (wOp notInSO ta tb) := q_cmp op_notIn_sign oi_notInS ha hb hm
theorem q_inS (ha : QE T X W a ta) (hb : QE T X W b tb) (hm : behindInMarks .In b = false := by first | exact nomark _ | rfl) : QE T X W (.Compare a [.In] [b] pos) (wOp inSO ta tb) := q_cmp op_in_sign oi_inS ha hb hm
theorem qt_notS (ha : QE T X W a ta) (hb : QE T X W b tb) (hm : behindInMarks .NotIn b = false := by first | exact nomark _ | rfl) : QT T X W (.Compare a [.NotIn] [b] pos) (wTest (wOp notInSO ta tb)) := qt_cmp op_notIn_sign oi_notInS ha hb hm
theorem qt_inS (ha : QE T X W a ta) (hb : QE T X W b tb) (hm : behindInMarks .In b = false := by first | exact nomark _ | rfl) : QT T X W (.Compare a [.In] [b] pos) (wTest (wOp inSO ta tb)) := qt_cmp op_in_sign oi_inS ha hb hm
theorem qt_isB (ha : QE T X W a ta) (hb : QE T X W b tb) (hm : behindInMarks .Is b = false := by first | exact nomark _ | rfl) : QT T X W (.Compare a [.Is] [b] pos) (wTest (wOp isBO ta tb)) := qt_cmp op_isBl oi_isB ha hb hm
theorem qt_notB (ha : QE T X W a ta) (hb : QE T X W b tb) (hm : behindInMarks .IsNot b = false := by first | exact nomark _ | rfl) : QT T X W (.Compare a [.IsNot] [b] pos) (wTest (wOp notBO ta tb)) := qt_cmp op_notBl oi_notB ha hb hm
theorem qt_leLe (ha : QE T X W a ta) (hb : QE T X W b tb) (hc : QE T X W c tc) (hm : lastMarks [.LtE, .LtE] [b, c] = false := by with_unfolding_all rfl) : QT T X W (.Compare a [.LtE, .LtE] [b, c] pos) (wTest (wChain leO leO ta tb tc)) :=
  qt_chain (oi_int0 fun _ _ _ _ => .bl _) (oi_int0 fun _ _ _ _ => .bl _) (pt_chain op_le op_le ha.pe hb.pe hc.pe hm)
theorem q_len (hK : X.K = T.K) (hm : X.mg "len" = none) (ha : QA T X W (e :: es) u) (hg : Gl X "len" := by rfl) (he : starEach (e :: es) X.env = (false, eval e X.env) :: starEach es X.env := by rfl) (hpl : (backTo pos (starEach es X.env)).any (·.1) = false := by rfl) :
    QE T X W (.Call (.Name "len" p) (e :: es) [] pos) (wCall lenO u) := q_callB call_len (ci_len hK) hg hm rfl ha (by decide) (by decide) he hpl
theorem q_abs (hm : X.mg "abs" = none) (ha : QA T X W (e :: es) u) (hg : Gl X "abs" := by rfl) (he : starEach (e :: es) X.env = (false, eval e X.env) :: starEach es X.env := by rfl) (hpl : (backTo pos (starEach es X.env)).any (·.1) = false := by rfl) :
    QE T X W (.Call (.Name "abs" p) (e :: es) [] pos) (wCall absO u) := q_callB call_abs ci_abs hg hm rfl ha (by decide) (by decide) he hpl
theorem q_all (hc : X.calm = true) (hK : X.K = T.K) (hm : X.mg "all" = none) (ha : QA T X W (e :: es) u) (hg : Gl X "all" := by rfl) (he : starEach (e :: es) X.env = (false, eval e X.env) :: starEach es X.env := by rfl) (hpl : (backTo pos (starEach es X.env)).any (·.1) = false := by rfl) :
    QE T X W (.Call (.Name "all" p) (e :: es) [] pos) (wCall (allO fun bs => bs.all id) u) := q_callB (cr_all hc) (ci_all hK) hg hm rfl ha (by decide) (by decide) he hpl
theorem q_any (hc : X.calm = true) (hK : X.K = T.K) (hm : X.mg "any" = none) (ha : QA T X W (e :: es) u) (hg : Gl X "any" := by rfl) (he : starEach (e :: es) X.env = (false, eval e X.env) :: starEach es X.env := by rfl) (hpl : (backTo pos (starEach es X.env)).any (·.1) = false := by rfl) :
    QE T X W (.Call (.Name "any" p) (e :: es) [] pos) (wCall (allO fun bs => bs.any id) u) := q_callB (cr_any hc) (ci_any hK) hg hm rfl ha (by decide) (by decide) he hpl
theorem q_isi (c : String) (hK : X.K = T.K) (hm : X.mg "isinstance" = none) (ha : QA T X W (e :: es) u) (hc : c ∈ clsNames := by decide) (hg : Gl X "isinstance" := by rfl) (he : starEach (e :: es) X.env = (false, eval e X.env) :: starEach es X.env := by rfl) (hpl : (backTo pos (starEach es X.env)).any (·.1) = false := by rfl) :
    QE T X W (.Call (.Name "isinstance" p) (e :: es) [] pos) (wCall (isiO c) u) := q_callB call_isi (ci_isi hK hc) hg hm rfl ha (by decide) (by decide) he hpl
theorem q_repr (hK : X.K = T.K) (hgd : X.A.guards = some []) (hu : X.A.units + 64 < cLine) (hm : X.mg "repr" = none) (ha : QA T X W (e :: es) u) (hg : Gl X "repr" := by rfl) (he : starEach (e :: es) X.env = (false, eval e X.env) :: starEach es X.env := by rfl) (hpl : (backTo pos (starEach es X.env)).any (·.1) = false := by rfl) :
    QE T X W (.Call (.Name "repr" p) (e :: es) [] pos) (wCall reprO u) := q_callB (call_reprD hK hgd hu) ci_repr hg hm rfl ha (by decide) (by decide) he hpl
theorem q_appendL (hK : X.K = T.K) {o : Expr} {to : TEd} (ho : QE T X W o to) (ha : QA T X W [e] u) (hbase : attributeBase o "append" X.env (eval o X.env) = eval o X.env := by rfl)
    (hfew : ((backTo pos (starEach [e] X.env)).all (fun x => !x.1) && (backToKw pos (keywordEach [] X.env)).all (fun x => x.1.isSome) && decide (([e] : List Expr).length + ([] : List Keyword).length + (if ([] : List Keyword).isEmpty then 0 else 1) < 30)) = true := by rfl)
    (hline : (apos.endLine == pos.line) = true := by rfl) (hs : starEach [e] X.env = (false, eval e X.env) :: starEach [] X.env := by rfl) (hplain : (backTo pos (starEach [] X.env)).any (·.1) = false := by rfl) :
    QE T X W (.Call (.Attribute o "append" apos) [e] [] pos) (wML appendO to u) := by
  exact q_append (pe_bm PySem.F.plainAttrs_list PySem.F.slot_list_append PySem.F.type_list_append mt_append ho.pe ha.pa hbase hfew hline hs hplain)
theorem q_joinL (hK : X.K = T.K) {o : Expr} {to : TEd} (ho : QE T X W o to) (ha : QA T X W [e] u) (hbase : attributeBase o "join" X.env (eval o X.env) = eval o X.env := by rfl)
    (hfew : ((backTo pos (starEach [e] X.env)).all (fun x => !x.1) && (backToKw pos (keywordEach [] X.env)).all (fun x => x.1.isSome) && decide (([e] : List Expr).length + ([] : List Keyword).length + (if ([] : List Keyword).isEmpty then 0 else 1) < 30)) = true := by rfl)
    (hline : (apos.endLine == pos.line) = true := by rfl) (hs : starEach [e] X.env = (false, eval e X.env) :: starEach [] X.env := by rfl) (hplain : (backTo pos (starEach [] X.env)).any (·.1) = false := by rfl) :
    QE T X W (.Call (.Attribute o "join" apos) [e] [] pos) (wMS joinO to u) :=
  q_bmS (id := "str.join") (pe_bm PySem.F.plainAttrs_str PySem.F.slot_str_join PySem.F.type_str_join mt_join ho.pe ha.pa hbase hfew hline hs hplain) (mi_join hK)
end
/-! ### loops, read -/
theorem wForL_inv {stay : GH → Prop} {g : TGd} {t : TSd} {De : DEnds} (I : List D → Ev → GH → Prop)
    (hend : ∀ env G, I [] env G → stay G ∧ De.nx env G)
    (hstep : ∀ d r env G (nx : Ev → GH → Prop), I (d :: r) env G → (∀ env' G', I r env' G' → nx env' G') → stay G ∧ g d env G (fun env1 G1 => t { De with nx := nx, ct := nx, bk := De.nx } env1 G1) (fun c xs G' => De.ex c xs env G')) :
    ∀ (ds : List D) (env : Ev) (G : GH), I ds env G → wForL stay g t De ds env G
  | [], env, G, h => hend env G h
  | d :: r, env, G, h => hstep d r env G (fun e G => wForL stay g t De r e G) h fun e' G' h' => wForL_inv I hend hstep r e' G' h'
theorem wCompL_inv {p : Addr} {stay : GH → Prop} {gd : TGd} {tt : TTd} {te : TEd} {env0 : Ev} {Q : List D → GH → Prop} (I : List D → List D → GH → Prop)
    (hend : ∀ acc G, I [] acc G → stay G ∧ G p = some (.lst acc) ∧ Q acc G)
    (hstep : ∀ d r acc G (k : List D → GH → Prop), I (d :: r) acc G → (∀ acc' G', I r acc' G' → k acc' G') → stay G ∧ gd d env0 G (fun env1 G1 => tt env1 G1 (fun b G2 => if b = true then te env1 G2 (fun y G3 => G3 p = some (.lst acc) ∧ k (acc ++ [y]) (gset G3 p (.lst (acc ++ [y])))) (fun _ _ _ => False) else k acc G2) (fun _ _ _ => False)) (fun _ _ _ => False)) :
    ∀ (ds acc : List D) (G : GH), I ds acc G → wCompL p stay gd tt te env0 Q ds acc G
  | [], acc, G, h => hend acc G h
  | d :: r, acc, G, h => hstep d r acc G (fun acc' G' => wCompL p stay gd tt te env0 Q r acc' G') h fun acc' G' h' => wCompL_inv I hend hstep r acc' G' h'
/-- a list of pure words: f tells the word of each, or that it is passed over -/
theorem wLc_pure {p : Addr} {stay : GH → Prop} {gd : TGd} {tt : TTd} {te : TEd} {env0 : Ev} {Q : List D → GH → Prop} {G0 : GH} (f : D → Option D) (hp : G0 p = none) (hst : ∀ acc, stay (gset G0 p (.lst acc))) :
    ∀ (ds acc : List D), (∀ d ∈ ds, ∀ G (k : D → Prop) (k0 : Prop), (match f d with | some y => k y | none => k0) →
      gd d env0 G (fun env1 G1 => tt env1 G1 (fun b G2 => if b = true then te env1 G2 (fun y G3 => G3 = G ∧ k y) (fun _ _ _ => False) else G2 = G ∧ k0) (fun _ _ _ => False)) (fun _ _ _ => False)) →
      (∀ {d : D} {G : GH} {P1 P2 : Ev → GH → Prop}, (∀ e G, P1 e G → P2 e G) → gd d env0 G P1 (fun _ _ _ => False) → gd d env0 G P2 (fun _ _ _ => False)) →
      (∀ {e : Ev} {G : GH} {P1 P2 : Bool → GH → Prop}, (∀ e G, P1 e G → P2 e G) → tt e G P1 (fun _ _ _ => False) → tt e G P2 (fun _ _ _ => False)) →
      (∀ {e : Ev} {G : GH} {P1 P2 : DK}, (∀ e G, P1 e G → P2 e G) → te e G P1 (fun _ _ _ => False) → te e G P2 (fun _ _ _ => False)) →
      Q (acc ++ ds.filterMap f) (gset G0 p (.lst (acc ++ ds.filterMap f))) → wCompL p stay gd tt te env0 Q ds acc (gset G0 p (.lst acc))
  | [], acc, _, _, _, _, q => ⟨hst acc, gset_same, by simpa using q⟩
  | d :: r, acc, h, mg, mt, me, q => by
    refine ⟨hst acc, ?_⟩
    have h0 := h d List.mem_cons_self (gset G0 p (.lst acc)) (fun y => some y = f d) (none = f d) (by cases f d <;> rfl)
    refine mg (fun e1 G1 h1 => mt (fun b G2 h2 => ?_) h1) h0
    have next := fun acc' => wLc_pure (Q := Q) f hp hst r acc' (fun d hd => h d (List.mem_cons_of_mem _ hd)) mg mt me
    cases b with
    | true =>
      rw [if_pos rfl] at h2 ⊢
      refine me (fun y G3 h3 => ?_) h2
      obtain ⟨rfl, ey⟩ := h3
      refine ⟨gset_same, ?_⟩
      rw [gset_gset]
      refine next (acc ++ [y]) ?_
      rw [List.filterMap_cons, ← ey] at q
      simpa [List.append_assoc] using q
    | false =>
      rw [if_neg Bool.false_ne_true] at h2 ⊢
      obtain ⟨rfl, ey⟩ := h2
      refine next acc ?_
      rw [List.filterMap_cons, ← ey] at q
      exact q
/-! ### the end, over facts by names -/
theorem lawG_walkE {l : PySem.W.OpenLaw} {k : Nat} {q : Program} {loose : List Str} {XP : (Str → Option Value) → Heap → Prop} {YP : World → Heap → Prop} {d : DefRec} {x : Str}
    (hn : l.most = some 63) (hdf : d.params.defaults = []) (hr : RoomG k callerA)
    (F : ∀ (w : World) (mg : Str → Option Value) (fa : Addr) (h : Heap), YP w h → h.Ns mainGlobals mg → mg d.name = some (.ref fa) →
      ∃ (T : Tb) (fd : FuncData), T.K.In h ∧ (∀ (s : Shared) (u : Value), BindsTo s fd ⟨[u], []⟩ [(x, u)]) ∧
        ∀ base : Heap, T.K.In base → base.Ns mainGlobals mg → FnG l.prog w T.K mg base (L2.CX l.prog w) k fa fd [x] (liftSp T spLaw)) :
    PySem.W.WalkO q loose XP YP l.row.toRowW d [] (fun f vs => PySem.call f vs) := by
  refine Att.attach_call hn hdf fun w s₀ s₁ mg mb fa o pm cd doc a vs ns G Y ho hd hcd hmg hobj hints hlen hg => ?_
  obtain ⟨T, fd, KX, hb, hF⟩ := F w mg fa _ Y G.T.g hmg
  exact lawG_call (T := T) KX G.T.g G.T.b G.T.builtins G.T.nolimit hg hobj hints hlen hr hF hb
end DL
set_option Elab.async false
set_option linter.all false
set_option maxRecDepth 100000
set_option maxHeartbeats 4000000
namespace DL
open PySem PySem.Spec PyProof.Rows L2
/-! ### what readings of known words say -/
section
variable {g : Int → Int → D} {C : Int → Int → Prop} {i j k : Int} {x y : D} {u v : Str} {ds es : List D} {a b : Addr} {G : GH} {Q : DK}
theorem int0_ii : int0 g (.int i) (.int j) G Q = Q (g i j) G := rfl
theorem intO_ii : intO C g (.int i) (.int j) G Q = (C i j ∧ Q (g i j) G) := rfl
theorem addO_ii : addO (.int i) (.int j) G Q = Q (.int (i + j)) G := rfl
theorem addO_ss : addO (.str u) (.str v) G Q = (u.length + v.length ≤ sizeLine ∧ Q (.str (u ++ v)) G) := rfl
theorem addO_tt : addO (.tup ds) (.tup es) G Q = (ds.length + es.length ≤ sizeLine ∧ Q (.tup (ds ++ es)) G) := rfl
theorem addO_ll : addO (.lst ds) (.lst es) G Q = (ds.length + es.length ≤ sizeLine ∧ Q (.lst (ds ++ es)) G) := rfl
theorem mulDO_ii : mulDO (.int i) (.int k) G Q = ((CMulW i k ∨ CMul i k) ∧ Q (.int (i * k)) G) := rfl
theorem mulDO_li : mulDO (.lst ds) (.int k) G Q = (-(2 ^ 63) ≤ k ∧ k < 2 ^ 63 ∧ ds.length * k.toNat ≤ sizeLine ∧ Q (.lst (List.replicate k.toNat ds).flatten) G) := rfl
theorem mulDO_ti : mulDO (.tup ds) (.int k) G Q = (ds ≠ [] ∧ 2 ≤ k ∧ ds.length * k.toNat ≤ 1000000 ∧ Q (.tup (List.replicate k.toNat ds).flatten) G) := rfl
theorem mulDO_si : mulDO (.str u) (.int k) G Q = (MulOk u k ∧ Q (.str (Txt.mul u k)) G) := rfl
theorem ixO_t : ixO (.tup ds) (.int i) G Q = ∃ d, atI ds i = some d ∧ Q d G := rfl
theorem ixO_l : ixO (.lst ds) (.int i) G Q = ∃ d, atI ds i = some d ∧ Q d G := rfl
theorem ixO_f : ixO (.frl ds) (.int i) G Q = ∃ d, atI ds i = some d ∧ Q d G := rfl
theorem ixO_s : ixO (.str u) (.int i) G Q = (u.length ≤ sizeLine ∧ ∃ c, atI u.cps.toList i = some c ∧ Q (.str ⟨#[c]⟩) G) := rfl
theorem ixO_r : ixO (.ref a) (.int i) G Q = ∃ ds, G a = some (.lst ds) ∧ ∃ d, atI ds i = some d ∧ Q d G := rfl
theorem negO_c {env : Ev} {Ex : DX} : negO (wC (.int i)) env G Q Ex = ∃ j, i = j ∧ Q (.int (-j)) G := by
  show (∃ j, D.int i = .int j ∧ Q (.int (-j)) G) = _
  simp only [D.int.injEq]
theorem lenO_1 : lenO [x] G Q = lenO1 (topD G x) G Q := rfl
theorem lenO1_s : lenO1 (.str u) G Q = (u.length ≤ sizeLine ∧ Q (.int u.length) G) := rfl
theorem lenO1_t : lenO1 (.tup ds) G Q = Q (.int ds.length) G := rfl
theorem lenO1_l : lenO1 (.lst ds) G Q = Q (.int ds.length) G := rfl
theorem lenO1_f : lenO1 (.frl ds) G Q = Q (.int ds.length) G := rfl
theorem absO_i : absO [.int i] G Q = Q (.int (if i < 0 then -i else i)) G := rfl
theorem allO_1 {f : List Bool → Bool} : allO f [x] G Q = ∃ xs, topD G x = .lst xs ∧ ∃ bs, blsD xs = some bs ∧ Q (.bl (f bs)) G := rfl
theorem isiO_1 {c n : String} : isiO c [x, .ty n] G Q = (n = c ∧ ∃ a, tyD G x = some a ∧ Q (.bl (instB a c)) G) := rfl
theorem reprO_1 : reprO [x] G Q = (showD x = true ∧ (pyR x).showable = true ∧ (pyR x).shown.length ≤ sizeLine ∧ (pyR x).depth ≤ 60 ∧ Q (.str (pyR x).shown) G) := rfl
theorem joinO_1 : joinO (.str u) [x] G Q = ∃ xs ys, topD G x = .lst xs ∧ strsD xs = some ys ∧ (ys.map (·.length)).sum + ys.length * u.length ≤ 16777216 ∧ Q (.str (Txt.join u ys)) G := rfl
theorem appendO_1 {xs : List D} : appendO a xs [x] G Q = ∃ d, [x] = [d] ∧ xs.length < sizeLine ∧ Q .non (gset G a (.lst (xs ++ [d]))) := rfl
theorem slO_t {lo hi : Option Int} : slO (.tup ds) lo hi G Q = Q (.tup (cutD ds lo hi)) G := rfl
theorem slO_l {lo hi : Option Int} : slO (.lst ds) lo hi G Q = Q (.lst (cutD ds lo hi)) G := rfl
theorem slO_f {lo hi : Option Int} : slO (.frl ds) lo hi G Q = Q (.lst (cutD ds lo hi)) G := rfl
theorem slO_s {lo hi : Option Int} : slO (.str u) lo hi G Q = (u.length ≤ sizeLine ∧ Q (.str (cutS u lo hi)) G) := rfl
theorem itO_l {Q : List D → (GH → Prop) → GH → Prop} : itO (.lst ds) G Q = Q ds always G := rfl
theorem itO_f {Q : List D → (GH → Prop) → GH → Prop} : itO (.frl ds) G Q = Q ds always G := rfl
theorem itO_r {Q : List D → (GH → Prop) → GH → Prop} : itO (.ref a) G Q = ∃ ds, G a = some (.lst ds) ∧ Q ds (fun G => G a = some (.lst ds)) G := rfl
theorem setO_ri {Q : GH → Prop} : setO (.ref a) (.int k) x G Q ↔ ∃ ds, G a = some (.lst ds) ∧ ∃ j, ixN ds.length k = some j ∧ Q (gset G a (.lst (ds.set j x))) := by
  constructor
  · rintro ⟨a', ds, k', j, e1, e2, h1, h2, q⟩
    cases e1; cases e2
    exact ⟨ds, h1, j, h2, q⟩
  · rintro ⟨ds, h1, j, h2, q⟩
    exact ⟨a, ds, k, j, rfl, rfl, h1, h2, q⟩
theorem atI_nat {α : Type} (xs : List α) (n : Nat) : atI xs (n : Int) = xs[n]? := by
  unfold atI ixN
  by_cases h : n < xs.length
  · rw [if_pos (by omega), if_pos (by omega)]
    rfl
  · rw [if_pos (by omega), if_neg (by omega), List.getElem?_eq_none (by omega)]
    rfl
theorem atI_get {α : Type} (xs : List α) {i : Int} (h0 : 0 ≤ i) : atI xs i = xs[i.toNat]? := by
  have e : i = (i.toNat : Int) := by omega
  rw [e, atI_nat, ← e]
theorem augAt_ri {K : D → Prop} : augAt (.ref a) (.int k) G K ↔ ∃ ds, G a = some (.lst ds) ∧ (0 ≤ k ∧ ∃ d, atI ds k = some d ∧ K d) := by
  constructor
  · rintro ⟨a', ds, k', d, e1, e2, h0, h1, h2, q⟩
    cases e1; cases e2
    exact ⟨ds, h1, h0, d, (atI_get ds h0).trans h2, q⟩
  · rintro ⟨ds, h1, h0, d, h2, q⟩
    rw [atI_get ds h0] at h2
    exact ⟨a, ds, k, d, rfl, rfl, h0, h1, h2, q⟩
theorem eqO_ss : eqO (.str u) (.str v) G Q = Q (.bl (decide (u = v))) G := rfl
theorem eqO_i : eqO (.int i) y G Q = eqG (.int i) y G Q := rfl
theorem eqO_b {c : Bool} : eqO (.bl c) y G Q = eqG (.bl c) y G Q := rfl
theorem eqO_l : eqO (.lst ds) y G Q = eqG (.lst ds) y G Q := rfl
theorem eqO_t : eqO (.tup ds) y G Q = eqG (.tup ds) y G Q := rfl
theorem eqO_r : eqO (.ref a) y G Q = eqG (.ref a) y G Q := rfl
theorem neO_ss : neO (.str u) (.str v) G Q = Q (.bl (!decide (u = v))) G := rfl
theorem neO_i : neO (.int i) y G Q = neG (.int i) y G Q := rfl
theorem neO_b {c : Bool} : neO (.bl c) y G Q = neG (.bl c) y G Q := rfl
theorem neO_l : neO (.lst ds) y G Q = neG (.lst ds) y G Q := rfl
theorem neO_t : neO (.tup ds) y G Q = neG (.tup ds) y G Q := rfl
theorem neO_r : neO (.ref a) y G Q = neG (.ref a) y G Q := rfl
/-- data equals itself -/
theorem eqO_self (h : okD x = true) (ht : topD G x = x) (q : Q (.bl true) G) : eqO x x G Q := by
  have gen : eqG x x G Q := by
    unfold eqG
    rw [ht, show eqD x x = true from SeqAt.eqv_refl _ (SeqAt.canLay_of_shaped h)]
    exact ⟨h, h, q⟩
  cases x with
  | str u => show Q (.bl (decide (u = u))) G; rw [decide_eq_true rfl]; exact q
  | _ => exact gen
theorem topD_i : topD G (.int i) = .int i := rfl
theorem topD_s : topD G (.str u) = .str u := rfl
theorem topD_b {c : Bool} : topD G (.bl c) = .bl c := rfl
theorem topD_n : topD G .non = .non := rfl
theorem topD_t : topD G (.tup ds) = .tup ds := rfl
theorem topD_l : topD G (.lst ds) = .lst ds := rfl
theorem topD_f : topD G (.frl ds) = .frl ds := rfl
theorem topD_d {ks : List Key} : topD G (.dic ks ds) = .dic ks ds := rfl
theorem okD_i : okD (.int i) = true := rfl
theorem okD_s : okD (.str u) = PyData.strOk u := by
  show (PyData.canLay0 (.str u) && decide (PyData.depth (.str u) ≤ 64)) = _
  unfold PyData.canLay0 PyData.depth
  rw [decide_eq_true (by omega), Bool.and_true]
theorem okD_b {c : Bool} : okD (.bl c) = true := by cases c <;> rfl
theorem okD_n : okD .non = true := rfl
theorem eqD_ii : eqD (.int i) (.int j) = decide (i = j) := by
  show PyData.eqv (.int i) (.int j) = _
  unfold PyData.eqv
  first
    | rfl
    | simp [BEq.beq]
theorem eqD_ss : eqD (.str u) (.str v) = decide (u = v) := by
  show PyData.eqv (.str u) (.str v) = _
  unfold PyData.eqv
  first
    | rfl
    | (simp [BEq.beq]; done)
    | exact Bool.beq_eq_decide_eq _ _
theorem eqD_refl (h : okD x = true) : eqD x x = true := SeqAt.eqv_refl _ (SeqAt.canLay_of_shaped h)
theorem tyD_n : tyD G .non = some "NoneType" := rfl
theorem tyD_b {c : Bool} : tyD G (.bl c) = some "bool" := rfl
theorem tyD_i : tyD G (.int i) = some "int" := rfl
theorem tyD_s : tyD G (.str u) = some "str" := rfl
theorem tyD_t : tyD G (.tup ds) = some "tuple" := rfl
theorem tyD_l : tyD G (.lst ds) = some "list" := rfl
theorem tyD_f : tyD G (.frl ds) = some "list" := rfl
theorem tyD_d {ks : List Key} : tyD G (.dic ks ds) = some "dict" := rfl
theorem atI_0 {α : Type} {x : α} {r : List α} : atI (x :: r) 0 = some x := atI_nat (x :: r) 0
theorem atI_1 {α : Type} {x y : α} {r : List α} : atI (x :: y :: r) 1 = some y := atI_nat (x :: y :: r) 1
theorem atI_2 {α : Type} {x y z : α} {r : List α} : atI (x :: y :: z :: r) 2 = some z := atI_nat (x :: y :: z :: r) 2
theorem atI_3 {α : Type} {x y z w : α} {r : List α} : atI (x :: y :: z :: w :: r) 3 = some w := atI_nat (x :: y :: z :: w :: r) 3
theorem ixN_40 : ixN 4 0 = some 0 := rfl
theorem ixN_41 : ixN 4 1 = some 1 := rfl
theorem ixN_42 : ixN 4 2 = some 2 := rfl
theorem ixN_get {n : Nat} {i : Int} (h0 : 0 ≤ i) (h : i < n) : ixN n i = some i.toNat := by
  unfold ixN
  rw [if_pos h0, if_pos h]
end
theorem eqo_t {a : Addr} {o u : DO} : ((some o : Option DO) = some u) = (o = u) := Option.some.injEq o u
end DL
set_option Elab.async false
set_option linter.all false
set_option maxRecDepth 100000
set_option maxHeartbeats 4000000
namespace DL
open PySem PySem.Spec PyProof.Rows L2
theorem one_inj {c d : Nat} : ((⟨#[c]⟩ : Str) = ⟨#[d]⟩) ↔ c = d := by
  constructor
  · intro h
    have h1 : (#[c] : Array Nat) = #[d] := congrArg Str.cps h
    have h2 := congrArg Array.toList h1
    exact (List.cons.inj h2).1
  · intro h; rw [h]
theorem inSO_1 {c : Nat} {z : Str} {G : GH} {Q : DK} : inSO (.str ⟨#[c]⟩) (.str z) G Q ↔ Q (.bl (decide (c ∈ z.cps.toList))) G := by
  constructor
  · rintro ⟨d, y, e1, e2, q⟩
    have e3 := one_inj.mp (D.str.inj e1)
    cases e2
    subst e3
    exact q
  · intro q
    exact ⟨c, z, rfl, rfl, q⟩
theorem notInSO_1 {c : Nat} {z : Str} {G : GH} {Q : DK} : notInSO (.str ⟨#[c]⟩) (.str z) G Q ↔ Q (.bl (!decide (c ∈ z.cps.toList))) G := by
  constructor
  · rintro ⟨d, y, e1, e2, q⟩
    have e3 := one_inj.mp (D.str.inj e1)
    cases e2
    subst e3
    exact q
  · intro q
    exact ⟨c, z, rfl, rfl, q⟩
theorem isBO_1 {a b : Bool} {G : GH} {Q : DK} : isBO (.bl a) (.bl b) G Q ↔ Q (.bl (decide (a = b))) G := by
  constructor
  · rintro ⟨c, d, e1, e2, q⟩
    cases e1; cases e2
    exact q
  · intro q
    exact ⟨a, b, rfl, rfl, q⟩
theorem notBO_1 {a b : Bool} {G : GH} {Q : DK} : notBO (.bl a) (.bl b) G Q ↔ Q (.bl (!decide (a = b))) G := by
  constructor
  · rintro ⟨c, d, e1, e2, q⟩
    cases e1; cases e2
    exact q
  · intro q
    exact ⟨a, b, rfl, rfl, q⟩
/-- one turn of a list comprehension -/
abbrev lcTurn (p : Addr) (gd : TGd) (tt : TTd) (te : TEd) (env0 : Ev) (d : D) (acc : List D) (G : GH) (k : List D → GH → Prop) : Prop :=
  gd d env0 G (fun env1 G1 => tt env1 G1 (fun b G2 => if b = true then te env1 G2 (fun y G3 => G3 p = some (.lst acc) ∧ k (acc ++ [y]) (gset G3 p (.lst (acc ++ [y])))) (fun _ _ _ => False) else k acc G2) (fun _ _ _ => False)) (fun _ _ _ => False)
/-- a comprehension that leaves what changes alone: f tells the word of each item, if there is one -/
theorem lc_map {p : Addr} {stay : GH → Prop} {gd : TGd} {tt : TTd} {te : TEd} {env0 : Ev} {Q : List D → GH → Prop} {G0 : GH} (f : D → Option D) (hst : ∀ acc, stay (gset G0 p (.lst acc))) :
    ∀ (ds acc : List D), (∀ d ∈ ds, ∀ acc (k : List D → GH → Prop), (k (acc ++ (f d).toList) (gset G0 p (.lst (acc ++ (f d).toList)))) → lcTurn p gd tt te env0 d acc (gset G0 p (.lst acc)) k) →
      Q (acc ++ ds.filterMap f) (gset G0 p (.lst (acc ++ ds.filterMap f))) → wCompL p stay gd tt te env0 Q ds acc (gset G0 p (.lst acc))
  | [], acc, _, q => ⟨hst acc, gset_same, by simpa using q⟩
  | d :: r, acc, h, q => by
    refine ⟨hst acc, h d List.mem_cons_self acc (fun acc' G' => wCompL p stay gd tt te env0 Q r acc' G') ?_⟩
    refine lc_map f hst r _ (fun d hd => h d (List.mem_cons_of_mem _ hd)) ?_
    have e : acc ++ (f d).toList ++ r.filterMap f = acc ++ (d :: r).filterMap f := by
      rw [List.filterMap_cons]
      cases f d <;> simp
    rw [e]
    exact q
/-- .. as a list that is not changed any more -/
theorem lc_pure {p : Addr} {stay : GH → Prop} {gd : TGd} {tt : TTd} {te : TEd} {env0 : Ev} {Q : DK} {G0 : GH} (f : D → Option D) (np : G0 p = none) (hst : ∀ acc, stay (gset G0 p (.lst acc))) (ds : List D)
    (h : ∀ d ∈ ds, ∀ acc (k : List D → GH → Prop), (k (acc ++ (f d).toList) (gset G0 p (.lst (acc ++ (f d).toList)))) → lcTurn p gd tt te env0 d acc (gset G0 p (.lst acc)) k)
    (q : Q (.lst (ds.filterMap f)) G0) : wCompL p stay gd tt te env0 (fun acc G2 => Q (.lst acc) (gdel G2 p)) ds [] (gset G0 p (.lst [])) := by
  refine lc_map f hst ds [] h ?_
  rw [List.nil_append]
  show Q (.lst (ds.filterMap f)) (gdel (gset G0 p _) p)
  rw [gdel_gset np]
  exact q
theorem gset_swap {G : GH} {a p : Addr} {x y z : DO} (h : p ≠ a) : gset (gset (gset G a x) p y) a z = gset (gset G a z) p y := by
  funext b
  unfold gset
  by_cases e : b = a
  · subst e
    rw [if_pos rfl, if_neg (fun q => h q.symm), if_pos rfl]
  · simp only [e, if_false]
theorem gset_two {G : GH} {a p : Addr} {x y : DO} (h : p ≠ a) : gset (gset G a x) p y a = some x := by rw [gset_ne fun q => h q.symm, gset_same]
/-- a comprehension that draws from what stands at a: J tells what may stand there, R what a word may be -/
theorem lc_draw {a p : Addr} {stay : GH → Prop} {gd : TGd} {tt : TTd} {te : TEd} {env0 : Ev} {Q : List D → GH → Prop} {G0 : GH} (J R : D → Prop) (hst : ∀ (d : DO) acc, stay (gset (gset G0 a d) p (.lst acc)))
    (h : ∀ (d : D) (b acc : List D) (k : List D → GH → Prop), J (.lst b) → (∀ y b', R y → J (.lst b') → k (acc ++ [y]) (gset (gset G0 a (.lst b')) p (.lst (acc ++ [y])))) → lcTurn p gd tt te env0 d acc (gset (gset G0 a (.lst b)) p (.lst acc)) k)
    {n : Nat} (q : ∀ acc b, (∀ y ∈ acc, R y) → acc.length = n → J (.lst b) → Q acc (gset (gset G0 a (.lst b)) p (.lst acc))) :
    ∀ (ds acc b : List D), acc.length + ds.length = n → (∀ y ∈ acc, R y) → J (.lst b) → wCompL p stay gd tt te env0 Q ds acc (gset (gset G0 a (.lst b)) p (.lst acc))
  | [], acc, b, hl, ha, hb => ⟨hst _ _, gset_same, q acc b ha (by simpa using hl) hb⟩
  | d :: r, acc, b, hl, ha, hb => ⟨hst _ _, h d b acc (fun acc' G' => wCompL p stay gd tt te env0 Q r acc' G') hb fun y b' hy hb' =>
    lc_draw J R hst h q r (acc ++ [y]) b' (by simp only [List.length_append, List.length_cons, List.length_nil] at hl ⊢; omega)
      (fun z hz => by
        rcases List.mem_append.mp hz with hz | hz
        · exact ha z hz
        · rw [List.mem_singleton.mp hz]; exact hy) hb'⟩
/-- the text of these signs -/
abbrev tx (l : List Nat) : Str := ⟨l.toArray⟩
theorem tx_len (l : List Nat) : (tx l).length = l.length := by simp [tx, Str.length]
theorem tx_cat (a b : List Nat) : tx a ++ tx b = tx (a ++ b) := TL.ext_tl (TL.tl_append (tx a) (tx b))
theorem tx_list (l : List Nat) : (tx l).cps.toList = l := rfl
theorem tx_ok {l : List Nat} (h : ∀ c ∈ l, c < 0x110000) : PyData.strOk (tx l) = true := by
  unfold PyData.strOk
  rw [← Array.all_toList]
  exact List.all_eq_true.mpr fun c hc => decide_eq_true (h c hc)
theorem cut_lo (l : List Nat) {i : Int} (h0 : 0 ≤ i) (h1 : i ≤ l.length) : cutS (tx l) none (some i) = tx (l.take i.toNat) := by
  have e : i = ((i.toNat : Nat) : Int) := by omega
  unfold cutS
  rw [e, HT.sIx_nat, HT.sIx_none, tx_len, Nat.min_eq_left (by omega), List.drop_zero, Nat.sub_zero]
  rfl
theorem cut_hi (l : List Nat) {i : Int} (h0 : 0 ≤ i) (h1 : i ≤ l.length) : cutS (tx l) (some i) none = tx (l.drop i.toNat) := by
  have e : i = ((i.toNat : Nat) : Int) := by omega
  unfold cutS
  rw [e, HT.sIx_nat, HT.sIx_none, tx_len, Nat.min_eq_left (by omega), List.take_of_length_le]
  · rfl
  · rw [List.length_drop]
    show l.length - _ ≤ _
    omega
def IsSign (d : D) : Prop := ∃ c, d = .str ⟨#[c]⟩ ∧ c < 0x110000
theorem signs_of : ∀ {acc : List D}, (∀ y ∈ acc, IsSign y) → ∃ cs : List Nat, acc = cs.map (fun c => D.str ⟨#[c]⟩) ∧ ∀ c ∈ cs, c < 0x110000
  | [], _ => ⟨[], rfl, fun _ h => nomatch h⟩
  | y :: r, h => by
    obtain ⟨c, e, hc⟩ := h y List.mem_cons_self
    obtain ⟨cs, er, hr⟩ := signs_of (acc := r) fun z hz => h z (List.mem_cons_of_mem _ hz)
    exact ⟨c :: cs, by rw [e, er, List.map_cons], fun d hd => (List.mem_cons.mp hd).elim (fun q => by rw [q]; exact hc) (hr d)⟩
theorem strs_signs : ∀ cs : List Nat, strsD (cs.map fun c => D.str ⟨#[c]⟩) = some (cs.map fun c => tx [c])
  | [] => rfl
  | c :: r => by
    show (strsD (r.map fun c => D.str ⟨#[c]⟩)).map ((⟨#[c]⟩ : Str) :: ·) = _
    rw [strs_signs r]
    rfl
theorem joinL_ones : ∀ cs : List Nat, TL.joinL [] (cs.map fun c => [c]) = cs
  | [] => rfl
  | [_] => rfl
  | c :: d :: r => by
    show [c] ++ ([] ++ TL.joinL [] ((d :: r).map fun c => [c])) = _
    rw [joinL_ones (d :: r)]
    rfl
theorem join_signs (cs : List Nat) : Txt.join "" (cs.map fun c => tx [c]) = tx cs := by
  have e : (cs.map fun c => tx [c]) = (cs.map fun c => [c]).map fun l => tx l := by rw [List.map_map]; rfl
  rw [e, show ("" : Str) = tx [] from rfl]
  exact (SX.join_S [] (cs.map fun c => [c])).trans (by rw [joinL_ones])
theorem sum_ones (cs : List Nat) : ((cs.map fun c => tx [c]).map (·.length)).sum = cs.length := by
  induction cs with
  | nil => rfl
  | cons c r ih =>
    rw [List.map_cons, List.map_cons, List.sum_cons, ih, List.length_cons, tx_len]
    simp
    omega
theorem blsD_map {α : Type} (f : α → Bool) : ∀ xs : List α, blsD (xs.map fun x => D.bl (f x)) = some (xs.map f)
  | [] => rfl
  | x :: xs => by
    show (blsD (xs.map fun x => D.bl (f x))).map (f x :: ·) = _
    rw [blsD_map f xs]
    rfl
theorem all_id {α : Type} (f : α → Bool) (xs : List α) : (xs.map f).all id = xs.all f := by
  rw [List.all_map]
  rfl
theorem strD_filterMap {β : Type} (z : Str) (g : D → Option β) : (strD z).filterMap g = z.cps.toList.filterMap fun c => g (.str ⟨#[c]⟩) := by
  unfold strD
  rw [List.filterMap_map]
  rfl
theorem mem_strD {z : Str} {d : D} (h : d ∈ strD z) : ∃ c, c ∈ z.cps.toList ∧ d = .str ⟨#[c]⟩ := by
  obtain ⟨c, h1, h2⟩ := List.mem_map.mp h
  exact ⟨c, h1, h2.symm⟩
/-- the one sign of a text -/
def sign1 : D → Nat
  | .str z => z.cps.toList.headD 0
  | _ => 0
theorem sign1_one {c : Nat} : sign1 (.str ⟨#[c]⟩) = c := rfl
end DL
set_option Elab.async false
set_option linter.all false
set_option maxRecDepth 100000
set_option maxHeartbeats 4000000
namespace K12
open PySem PySem.Spec PyProof.Rows L2 DL
/-- whole numbers -/
def IntsD (xs : List D) : Prop := ∀ d ∈ xs, ∃ i : Int, d = .int i ∧ 0 ≤ i
/-- what a bag holds -/
def BagOk (b : List D) : Prop := ∃ (s0 s1 s2 : Int) (cs : List D), b = [.int s0, .int s1, .int s2, .lst cs] ∧ 0 ≤ s0 ∧ 0 ≤ s1 ∧ s1 < 2147483647 ∧ 0 ≤ s2 ∧ IntsD cs
/-- a thing of which one can ask whether it is a number, a name -/
def AskOk (G : GH) (d : D) (a : String) : Prop := tyD G d = some a ∧ ∀ z, d = .str z → z.length ≤ sizeLine ∧ PyData.strOk z = true
def wholeB (a : String) : Bool := instB a "int" && !instB a "bool"
def letters : Str := "abcdefghijklmnopqrstuvwxyz"
def nameB : D → Bool
  | .str z => decide (1 ≤ z.length) && (decide (z.length ≤ 8) && z.cps.toList.all fun c => decide (c ∈ letters.cps.toList))
  | _ => false
def sp_is_integer : DSp := fun ds G Q _ => ∃ d a, ds = [d] ∧ AskOk G d a ∧ Q (.bl (wholeB a)) G
def sp_is_name : DSp := fun ds G Q _ => ∃ d a, ds = [d] ∧ AskOk G d a ∧ Q (.bl (nameB d)) G
def sp_law_whole : DSp := sp_is_integer
def sp_law_is_name : DSp := sp_is_name
def sp_law_bag : DSp := fun ds G Q _ => ∃ ns : List Int, ds = [scriptD ns] ∧ ns.length ≤ 63 ∧ ∀ p b, G p = none → BagOk b → Q (.ref p) (gset G p (.lst b))
def sp_law_take : DSp := fun ds G Q _ => ∃ a m b, ds = [.ref a, .int m] ∧ 0 < m ∧ m < 2 ^ 64 ∧ G a = some (.lst b) ∧ BagOk b ∧ ∀ v b', 0 ≤ v → v < m → BagOk b' → Q (.int v) (gset G a (.lst b'))
/-- what may be shown -/
def ShowOk (d : D) : Prop := okD d = true ∧ showD d = true ∧ (pyR d).showable = true ∧ (pyR d).shown.length ≤ sizeLine ∧ (pyR d).depth ≤ 60
def sp_law_alike : DSp := fun ds G Q _ => ∃ d, ds = [d, d] ∧ ShowOk d ∧ Q (.bl true) G
def sp_law_text : DSp := fun ds G Q _ => ∃ a b, ds = [.ref a] ∧ G a = some (.lst b) ∧ BagOk b ∧ ∀ z b', z.length ≤ 11 → PyData.strOk z = true → BagOk b' → Q (.str z) (gset G a (.lst b'))
/-- what is drawn to be asked -/
inductive Plain1 : D → Prop
  | non : Plain1 .non
  | bl (b : Bool) : Plain1 (.bl b)
  | int (i : Int) : i.natAbs ≤ 10 ^ 60 → Plain1 (.int i)
  | str (z : Str) : z.length ≤ 11 → PyData.strOk z = true → Plain1 (.str z)
inductive Thing : D → Prop
  | one {d : D} : Plain1 d → Thing d
  | lst {d : D} : Plain1 d → Thing (.lst [d])
  | tup {d : D} : Plain1 d → Thing (.tup [d])
  | dic {d : D} : Plain1 d → Thing (.dic [.inr "a"] [d])
def sp_law_thing : DSp := fun ds G Q _ => ∃ a b, ds = [.ref a] ∧ G a = some (.lst b) ∧ BagOk b ∧ ∀ d b', Thing d → BagOk b' → Q d (gset G a (.lst b'))
def sp_law : DSp := spLaw
end K12
set_option Elab.async false
set_option linter.all false
set_option maxRecDepth 100000
set_option maxHeartbeats 4000000

namespace K12
open PySem PySem.Spec PyProof.Rows L2 DL
def top (i : Nat) : Stmt := PySem.Challenge.pw_firingrules_k12_integers_and_names.main.body.getD i (.Pass ⟨0, 0, 0, 0⟩)
structure Bl (mg : Str → Option Value) : Prop where
  abs_ : mg "abs" = none
  all_ : mg "all" = none
  bool_ : mg "bool" = none
  int_ : mg "int" = none
  isinstance_ : mg "isinstance" = none
  len_ : mg "len" = none
  range_ : mg "range" = none
  repr_ : mg "repr" = none
  str_ : mg "str" = none
  LETTERS_ : ∃ t, mg "LETTERS" = some (.str "abcdefghijklmnopqrstuvwxyz" t)
abbrev s_is_integer : Stmt := top 2
theorem sc_is_integer : FnScope ["thing"] ["thing"] (defScope s_is_integer) := ⟨rfl, rfl, rfl, by decide +kernel, rfl, by decide +kernel, by decide +kernel⟩
def t_is_integer : TSd :=
  (wRet (wAnd (wCall (isiO "int") (wCons (wVar 0) (wCons (wC (.ty "int")) wNil))) (wNot (wCall (isiO "bool") (wCons (wVar 0) (wCons (wC (.ty "bool")) wNil))))))
theorem body_is_integer {P : Program} {w : World} {T : Tb} {mg : Str → Option Value} {base : Heap} {f : Addr} (m : Bl mg)  (cdv : Value) (A : Around) (outer : List Env) (s : Shared) (H : Hp) (E : XK) (hr : RoomG 0 (A.deeper (envOfC "is_integer" (defScope s_is_integer) s.heap.objs.size f cdv))) :
    QSs T (cxOf (L2.CX P w) P w T.K mg base ["thing"] "is_integer" (defScope s_is_integer) f cdv A outer s H E) (fun cls d _ H => E cls d H) (defBody s_is_integer) t_is_integer :=
  have sc := sc_is_integer
  (qs_one (q_ret (by exact (q_and (by exact (q_isi "int" (by rfl) (by exact m.isinstance_) (by exact (qa_cons (by exact (qv 0 (by rfl) (by exact Or.inl rfl))) (qa_cons (by exact (q_bltT (by rfl) (by exact m.int_) (by rfl))) qa_nil))))) (q_one (by exact (q_not (by exact (q_isi "bool" (by rfl) (by exact m.isinstance_) (by exact (qa_cons (by exact (qv 0 (by rfl) (by exact Or.inl rfl))) (qa_cons (by exact (q_bltT (by rfl) (by exact m.bool_) (by rfl))) qa_nil))))))))))))
abbrev s_is_name : Stmt := top 3
theorem sc_is_name : FnScope ["thing", "letter"] ["thing"] (defScope s_is_name) := ⟨rfl, rfl, rfl, by decide +kernel, rfl, by decide +kernel, by decide +kernel⟩
def t_is_name : TSd :=
  (wSeq (wIfS (wOrT (wNotT (wTest (wCall (isiO "str") (wCons (wVar 0) (wCons (wC (.ty "str")) wNil))))) (wNotT (wTest (wChain leO leO (wC (.int 1)) (wCall lenO (wCons (wVar 0) wNil)) (wC (.int 8)))))) (wRet (wC (.bl false))) wNext)
  (wRet (wCall (allO fun bs => bs.all id) (wCons (wLc (wiStr (wVar 0)) (gdName 1) wYes (wOp inSO (wVar 1) (wC (.str "abcdefghijklmnopqrstuvwxyz"))) [1]) wNil))))
theorem body_is_name {P : Program} {w : World} {T : Tb} {mg : Str → Option Value} {base : Heap} {f : Addr} (m : Bl mg)  (cdv : Value) (A : Around) (outer : List Env) (s : Shared) (H : Hp) (E : XK) (hr : RoomG 0 (A.deeper (envOfC "is_name" (defScope s_is_name) s.heap.objs.size f cdv))) :
    QSs T (cxOf (L2.CX P w) P w T.K mg base ["thing", "letter"] "is_name" (defScope s_is_name) f cdv A outer s H E) (fun cls d _ H => E cls d H) (defBody s_is_name) t_is_name :=
  have sc := sc_is_name
  (qs_cons (q_if (by exact (QW.qt (qw_or (by exact (qt_not (by exact (qt_val (by exact (q_isi "str" (by rfl) (by exact m.isinstance_) (by exact (qa_cons (by exact (qv 0 (by rfl) (by exact Or.inl rfl))) (qa_cons (by exact (q_bltT (by rfl) (by exact m.str_) (by rfl))) qa_nil))))))))) (qw_or1 (by exact (qt_not (by exact (qt_leLe q_int (by exact (q_len (by rfl) (by exact m.len_) (by exact (qa_cons (by exact (qv 0 (by rfl) (by exact Or.inl rfl))) qa_nil)))) q_int)))))))) (qs_one (q_ret q_bl)) qs_nil)
      (qs_one (q_ret (by exact (q_all (by rfl) (by rfl) (by exact m.all_) (by exact (qa_cons (by exact (q_lc (own := [("letter", 1)]) (by rfl) (by exact sc.nd) (qi_str (by exact (qv 0 (by rfl) (by exact Or.inl rfl)))) (by exact (show BlkOk ["thing", "letter"] (defScope s_is_name) _ [("letter", 1)] from blkOk_by (by decide +kernel))) (by exact (gok_name 1 (by decide))) (fun s H C cl fp => by exact (pg_name (i := 1) (by exact sc.nd) (by rfl) (by exact Or.inl rfl))) (fun s H C cl fp => by exact qts_nil) (fun s H C cl fp => by exact (by exact (q_inS (by exact (qv 1 (by rfl) (by exact Or.inl rfl))) (by exact (q_gstr (by rfl) (by exact m.LETTERS_)))))))) qa_nil)))))))
abbrev s_law_bag : Stmt := top 5
theorem sc_law_bag : FnScope ["_law_script", "_law_cell"] ["_law_script"] (defScope s_law_bag) := ⟨rfl, rfl, rfl, by decide +kernel, rfl, by decide +kernel, by decide +kernel⟩
def t_law_bag : TSd :=
  (wRet (wLstM (wCons (wC (.int 0)) (wCons (wC (.int 1234567891)) (wCons (wC (.int 0)) (wCons (wLc (wiLst (wSl slO (wVar 0) wNoPart (wPart (wC (.int 63))))) (gdName 1) wYes (wCall absO (wCons (wVar 1) wNil)) [1]) wNil))))))
theorem body_law_bag {P : Program} {w : World} {T : Tb} {mg : Str → Option Value} {base : Heap} {f : Addr} (m : Bl mg)  (cdv : Value) (A : Around) (outer : List Env) (s : Shared) (H : Hp) (E : XK) (hr : RoomG 0 (A.deeper (envOfC "_law_bag" (defScope s_law_bag) s.heap.objs.size f cdv))) :
    QSs T (cxOf (L2.CX P w) P w T.K mg base ["_law_script", "_law_cell"] "_law_bag" (defScope s_law_bag) f cdv A outer s H E) (fun cls d _ H => E cls d H) (defBody s_law_bag) t_law_bag :=
  have sc := sc_law_bag
  (qs_one (q_ret (by exact (q_lstM (by exact (qa_cons q_int (qa_cons q_int (qa_cons q_int (qa_cons (by exact (q_lc (own := [("_law_cell", 1)]) (by rfl) (by exact sc.nd) (qi_lst (by exact (q_slice (by rfl) (by exact (qv 0 (by rfl) (by exact Or.inl rfl))) qo_none (qo_some q_int))) (by rfl)) (by exact (show BlkOk ["_law_script", "_law_cell"] (defScope s_law_bag) _ [("_law_cell", 1)] from blkOk_by (by decide +kernel))) (by exact (gok_name 1 (by decide))) (fun s H C cl fp => by exact (pg_name (i := 1) (by exact sc.nd) (by rfl) (by exact Or.inl rfl))) (fun s H C cl fp => by exact qts_nil) (fun s H C cl fp => by exact (by exact (q_abs (by exact m.abs_) (by exact (qa_cons (by exact (qv 1 (by rfl) (by exact Or.inl rfl))) qa_nil))))))) qa_nil)))))))))
abbrev s_law_take : Stmt := top 6
theorem sc_law_take : FnScope ["_law_bag_here", "_law_many", "_law_cell", "_law_value", "_law_first", "_law_second"] ["_law_bag_here", "_law_many"] (defScope s_law_take) := ⟨rfl, rfl, rfl, by decide +kernel, rfl, by decide +kernel, by decide +kernel⟩
def t_law_take : TSd :=
  (wSeq (wIfS (wTest (wOp eqO (wOp ixO (wVar 0) (wC (.int 0))) (wC (.int 0)))) (wSeq (wSet 2 (wC (.int 0)))
  (wSeq (wIfS (wTest (wOp ltO (wOp ixO (wVar 0) (wC (.int 2))) (wCall lenO (wCons (wOp ixO (wVar 0) (wC (.int 3))) wNil)))) (wSet 2 (wOp ixO (wOp ixO (wVar 0) (wC (.int 3))) (wOp ixO (wVar 0) (wC (.int 2))))) wNext)
  (wSeq (wAugI (int0 fun i j => .int (i + j)) (wVar 0) (wC (.int 2)) (wC (.int 1)))
  (wSeq (wIfS (wTest (wOp geO (wVar 2) (wC (.int 1000000000000000000)))) (wSetI (wVar 2) (wVar 0) (wC (.int 0))) wNext)
  (wSetI (wOp modO (wOp addO (wOp addO (wOp mulDO (wOp ixO (wVar 0) (wC (.int 1))) (wC (.int 48271))) (wOp modO (wVar 2) (wC (.int 2147483647)))) (wOp mulDO (wC (.int 7919)) (wOp ixO (wVar 0) (wC (.int 2))))) (wC (.int 2147483647))) (wVar 0) (wC (.int 1))))))) wNext)
  (wSeq (wIfS (wTest (wOp gtO (wOp ixO (wVar 0) (wC (.int 0))) (wC (.int 0)))) (wSeq (wSet 3 (wOp modO (wOp ixO (wVar 0) (wC (.int 0))) (wVar 1)))
  (wSeq (wSetI (wOp fdivO (wOp ixO (wVar 0) (wC (.int 0))) (wVar 1)) (wVar 0) (wC (.int 0)))
  (wRet (wVar 3)))) wNext)
  (wSeq (wSet 4 (wOp modO (wOp mulDO (wOp addO (wOp ixO (wVar 0) (wC (.int 1))) (wC (.int 1))) (wC (.int 39373))) (wC (.int 1000000007))))
  (wSeq (wSet 5 (wOp modO (wOp mulDO (wOp modO (wOp mulDO (wVar 4) (wVar 4)) (wC (.int 998244353))) (wC (.int 30011))) (wC (.int 998244353))))
  (wSeq (wIfS (wTest (wOp gtO (wVar 1) (wC (.int 1000000)))) (wRet (wOp modO (wOp addO (wOp mulDO (wVar 5) (wC (.int 1000000007))) (wVar 4)) (wVar 1))) wNext)
  (wRet (wOp modO (wOp fdivO (wVar 5) (wC (.int 7))) (wVar 1))))))))
theorem body_law_take {P : Program} {w : World} {T : Tb} {mg : Str → Option Value} {base : Heap} {f : Addr} (m : Bl mg)  (cdv : Value) (A : Around) (outer : List Env) (s : Shared) (H : Hp) (E : XK) (hr : RoomG 0 (A.deeper (envOfC "_law_take" (defScope s_law_take) s.heap.objs.size f cdv))) :
    QSs T (cxOf (L2.CX P w) P w T.K mg base ["_law_bag_here", "_law_many", "_law_cell", "_law_value", "_law_first", "_law_second"] "_law_take" (defScope s_law_take) f cdv A outer s H E) (fun cls d _ H => E cls d H) (defBody s_law_take) t_law_take :=
  have sc := sc_law_take
  (qs_cons (q_if (by exact (qt_eq (by rfl) (by exact hr.hu) (by exact (q_ix (by rfl) (by exact (qv 0 (by rfl) (by exact Or.inl rfl))) q_int)) q_int)) (qs_cons (q_set (i := 2) (by exact sc.nd) (by rfl) (by exact Or.inl rfl) q_int)
      (qs_cons (q_if (by exact (qt_lt (by exact (q_ix (by rfl) (by exact (qv 0 (by rfl) (by exact Or.inl rfl))) q_int)) (by exact (q_len (by rfl) (by exact m.len_) (by exact (qa_cons (by exact (q_ix (by rfl) (by exact (qv 0 (by rfl) (by exact Or.inl rfl))) q_int)) qa_nil)))))) (qs_one (q_set (i := 2) (by exact sc.nd) (by rfl) (by exact Or.inl rfl) (by exact (q_ix (by rfl) (by exact (q_ix (by rfl) (by exact (qv 0 (by rfl) (by exact Or.inl rfl))) q_int)) (by exact (q_ix (by rfl) (by exact (qv 0 (by rfl) (by exact Or.inl rfl))) q_int)))))) qs_nil)
      (qs_cons (q_augI (by rfl) (by exact (qv 0 (by rfl) (by exact Or.inl rfl))) q_int q_int ip_add oi_ipI)
      (qs_cons (q_if (by exact (qt_ge (by exact (qv 2 (by rfl) (by exact Or.inl rfl))) q_int)) (qs_one (q_setI (by exact (qv 2 (by rfl) (by exact Or.inl rfl))) (by exact (qv 0 (by rfl) (by exact Or.inl rfl))) q_int)) qs_nil)
      (qs_one (q_setI (by exact (q_mod (by exact (q_add (by rfl) (by exact (q_add (by rfl) (by exact (q_mulD (by rfl) (by exact (q_ix (by rfl) (by exact (qv 0 (by rfl) (by exact Or.inl rfl))) q_int)) q_int)) (by exact (q_mod (by exact (qv 2 (by rfl) (by exact Or.inl rfl))) q_int)))) (by exact (q_mulD (by rfl) q_int (by exact (q_ix (by rfl) (by exact (qv 0 (by rfl) (by exact Or.inl rfl))) q_int)))))) q_int)) (by exact (qv 0 (by rfl) (by exact Or.inl rfl))) q_int)))))) qs_nil)
      (qs_cons (q_if (by exact (qt_gt (by exact (q_ix (by rfl) (by exact (qv 0 (by rfl) (by exact Or.inl rfl))) q_int)) q_int)) (qs_cons (q_set (i := 3) (by exact sc.nd) (by rfl) (by exact Or.inl rfl) (by exact (q_mod (by exact (q_ix (by rfl) (by exact (qv 0 (by rfl) (by exact Or.inl rfl))) q_int)) (by exact (qv 1 (by rfl) (by exact Or.inl rfl))))))
      (qs_cons (q_setI (by exact (q_fdiv (by exact (q_ix (by rfl) (by exact (qv 0 (by rfl) (by exact Or.inl rfl))) q_int)) (by exact (qv 1 (by rfl) (by exact Or.inl rfl))))) (by exact (qv 0 (by rfl) (by exact Or.inl rfl))) q_int)
      (qs_one (q_ret (by exact (qv 3 (by rfl) (by exact Or.inl rfl))))))) qs_nil)
      (qs_cons (q_set (i := 4) (by exact sc.nd) (by rfl) (by exact Or.inl rfl) (by exact (q_mod (by exact (q_mulD (by rfl) (by exact (q_add (by rfl) (by exact (q_ix (by rfl) (by exact (qv 0 (by rfl) (by exact Or.inl rfl))) q_int)) q_int)) q_int)) q_int)))
      (qs_cons (q_set (i := 5) (by exact sc.nd) (by rfl) (by exact Or.inl rfl) (by exact (q_mod (by exact (q_mulD (by rfl) (by exact (q_mod (by exact (q_mulD (by rfl) (by exact (qv 4 (by rfl) (by exact Or.inl rfl))) (by exact (qv 4 (by rfl) (by exact Or.inl rfl))))) q_int)) q_int)) q_int)))
      (qs_cons (q_if (by exact (qt_gt (by exact (qv 1 (by rfl) (by exact Or.inl rfl))) q_int)) (qs_one (q_ret (by exact (q_mod (by exact (q_add (by rfl) (by exact (q_mulD (by rfl) (by exact (qv 5 (by rfl) (by exact Or.inl rfl))) q_int)) (by exact (qv 4 (by rfl) (by exact Or.inl rfl))))) (by exact (qv 1 (by rfl) (by exact Or.inl rfl))))))) qs_nil)
      (qs_one (q_ret (by exact (q_mod (by exact (q_fdiv (by exact (qv 5 (by rfl) (by exact Or.inl rfl))) q_int)) (by exact (qv 1 (by rfl) (by exact Or.inl rfl))))))))))))
abbrev s_law_alike : Stmt := top 7
theorem sc_law_alike : FnScope ["_law_found", "_law_due"] ["_law_found", "_law_due"] (defScope s_law_alike) := ⟨rfl, rfl, rfl, by decide +kernel, rfl, by decide +kernel, by decide +kernel⟩
def t_law_alike : TSd :=
  (wRet (wAnd (wOp eqO (wVar 0) (wVar 1)) (wOp eqO (wCall reprO (wCons (wVar 0) wNil)) (wCall reprO (wCons (wVar 1) wNil)))))
theorem body_law_alike {P : Program} {w : World} {T : Tb} {mg : Str → Option Value} {base : Heap} {f : Addr} (m : Bl mg)  (cdv : Value) (A : Around) (outer : List Env) (s : Shared) (H : Hp) (E : XK) (hr : RoomG 0 (A.deeper (envOfC "_law_alike" (defScope s_law_alike) s.heap.objs.size f cdv))) :
    QSs T (cxOf (L2.CX P w) P w T.K mg base ["_law_found", "_law_due"] "_law_alike" (defScope s_law_alike) f cdv A outer s H E) (fun cls d _ H => E cls d H) (defBody s_law_alike) t_law_alike :=
  have sc := sc_law_alike
  (qs_one (q_ret (by exact (q_and (by exact (q_eq (by rfl) (by exact hr.hu) (by exact (qv 0 (by rfl) (by exact Or.inl rfl))) (by exact (qv 1 (by rfl) (by exact Or.inl rfl))))) (q_one (by exact (q_eq (by rfl) (by exact hr.hu) (by exact (q_repr (by rfl) (by exact hr.g) (by exact hr.hu) (by exact m.repr_) (by exact (qa_cons (by exact (qv 0 (by rfl) (by exact Or.inl rfl))) qa_nil)))) (by exact (q_repr (by rfl) (by exact hr.g) (by exact hr.hu) (by exact m.repr_) (by exact (qa_cons (by exact (qv 1 (by rfl) (by exact Or.inl rfl))) qa_nil)))))))))))
abbrev s_law_whole : Stmt := top 8
theorem sc_law_whole : FnScope ["_law_thing_here"] ["_law_thing_here"] (defScope s_law_whole) := ⟨rfl, rfl, rfl, by decide +kernel, rfl, by decide +kernel, by decide +kernel⟩
def t_law_whole : TSd :=
  (wRet (wAnd (wCall (isiO "int") (wCons (wVar 0) (wCons (wC (.ty "int")) wNil))) (wNot (wCall (isiO "bool") (wCons (wVar 0) (wCons (wC (.ty "bool")) wNil))))))
theorem body_law_whole {P : Program} {w : World} {T : Tb} {mg : Str → Option Value} {base : Heap} {f : Addr} (m : Bl mg)  (cdv : Value) (A : Around) (outer : List Env) (s : Shared) (H : Hp) (E : XK) (hr : RoomG 0 (A.deeper (envOfC "_law_whole" (defScope s_law_whole) s.heap.objs.size f cdv))) :
    QSs T (cxOf (L2.CX P w) P w T.K mg base ["_law_thing_here"] "_law_whole" (defScope s_law_whole) f cdv A outer s H E) (fun cls d _ H => E cls d H) (defBody s_law_whole) t_law_whole :=
  have sc := sc_law_whole
  (qs_one (q_ret (by exact (q_and (by exact (q_isi "int" (by rfl) (by exact m.isinstance_) (by exact (qa_cons (by exact (qv 0 (by rfl) (by exact Or.inl rfl))) (qa_cons (by exact (q_bltT (by rfl) (by exact m.int_) (by rfl))) qa_nil))))) (q_one (by exact (q_not (by exact (q_isi "bool" (by rfl) (by exact m.isinstance_) (by exact (qa_cons (by exact (qv 0 (by rfl) (by exact Or.inl rfl))) (qa_cons (by exact (q_bltT (by rfl) (by exact m.bool_) (by rfl))) qa_nil))))))))))))
abbrev s_law_is_name : Stmt := top 9
theorem sc_law_is_name : FnScope ["_law_thing_here", "_law_letter"] ["_law_thing_here"] (defScope s_law_is_name) := ⟨rfl, rfl, rfl, by decide +kernel, rfl, by decide +kernel, by decide +kernel⟩
def t_law_is_name : TSd :=
  (wSeq (wIfS (wOrT (wNotT (wTest (wCall (isiO "str") (wCons (wVar 0) (wCons (wC (.ty "str")) wNil))))) (wOrT (wTest (wOp eqO (wVar 0) (wC (.str "")))) (wTest (wOp gtO (wCall lenO (wCons (wVar 0) wNil)) (wC (.int 8)))))) (wRet (wC (.bl false))) wNext)
  (wRet (wOp eqO (wLc (wiStr (wVar 0)) (gdName 1) (wTest (wOp notInSO (wVar 1) (wC (.str "abcdefghijklmnopqrstuvwxyz")))) (wVar 1) [1]) (wLst wNil))))
theorem body_law_is_name {P : Program} {w : World} {T : Tb} {mg : Str → Option Value} {base : Heap} {f : Addr} (m : Bl mg)  (cdv : Value) (A : Around) (outer : List Env) (s : Shared) (H : Hp) (E : XK) (hr : RoomG 0 (A.deeper (envOfC "_law_is_name" (defScope s_law_is_name) s.heap.objs.size f cdv))) :
    QSs T (cxOf (L2.CX P w) P w T.K mg base ["_law_thing_here", "_law_letter"] "_law_is_name" (defScope s_law_is_name) f cdv A outer s H E) (fun cls d _ H => E cls d H) (defBody s_law_is_name) t_law_is_name :=
  have sc := sc_law_is_name
  (qs_cons (q_if (by exact (QW.qt (qw_or (by exact (qt_not (by exact (qt_val (by exact (q_isi "str" (by rfl) (by exact m.isinstance_) (by exact (qa_cons (by exact (qv 0 (by rfl) (by exact Or.inl rfl))) (qa_cons (by exact (q_bltT (by rfl) (by exact m.str_) (by rfl))) qa_nil))))))))) (qw_or (by exact (qt_eq (by rfl) (by exact hr.hu) (by exact (qv 0 (by rfl) (by exact Or.inl rfl))) q_str)) (qw_or1 (by exact (qt_gt (by exact (q_len (by rfl) (by exact m.len_) (by exact (qa_cons (by exact (qv 0 (by rfl) (by exact Or.inl rfl))) qa_nil)))) q_int))))))) (qs_one (q_ret q_bl)) qs_nil)
      (qs_one (q_ret (by exact (q_eq (by rfl) (by exact hr.hu) (by exact (q_lc (own := [("_law_letter", 1)]) (by rfl) (by exact sc.nd) (qi_str (by exact (qv 0 (by rfl) (by exact Or.inl rfl)))) (by exact (show BlkOk ["_law_thing_here", "_law_letter"] (defScope s_law_is_name) _ [("_law_letter", 1)] from blkOk_by (by decide +kernel))) (by exact (gok_name 1 (by decide))) (fun s H C cl fp => by exact (pg_name (i := 1) (by exact sc.nd) (by rfl) (by exact Or.inl rfl))) (fun s H C cl fp => by exact (qts_one (by exact (qt_notS (by exact (qv 1 (by rfl) (by exact Or.inl rfl))) q_str)))) (fun s H C cl fp => by exact (by exact (qv 1 (by rfl) (by exact Or.inl rfl)))))) (by exact (q_lst qa_nil)))))))
abbrev s_law_text : Stmt := top 10
theorem sc_law_text : FnScope ["_law_bag_here", "_law_found", "_law_at", "_law_k"] ["_law_bag_here"] (defScope s_law_text) := ⟨rfl, rfl, rfl, by decide +kernel, rfl, by decide +kernel, by decide +kernel⟩
def t_law_text : TSd :=
  (wSeq (wSet 1 (wMS joinO (wC (.str "")) (wCons (wLc (wiRange (wCons (wFn sp_law_take (wCons (wVar 0) (wCons (wC (.int 11)) wNil))) wNil)) (gdName 3) wYes (wOp ixO (wC (.str "abcdefghijklmnopqrstuvwxyz")) (wFn sp_law_take (wCons (wVar 0) (wCons (wC (.int 26)) wNil)))) [3]) wNil)))
  (wSeq (wIfS (wTest (wOp gtO (wFn sp_law_take (wCons (wVar 0) (wCons (wC (.int 3)) wNil))) (wC (.int 0)))) (wRet (wVar 1)) wNext)
  (wSeq (wSet 2 (wFn sp_law_take (wCons (wVar 0) (wCons (wOp addO (wCall lenO (wCons (wVar 1) wNil)) (wC (.int 1))) wNil))))
  (wRet (wOp addO (wOp addO (wSl slO (wVar 1) wNoPart (wPart (wVar 2))) (wOp ixO (wLst (wCons (wC (.str "A")) (wCons (wC (.str "0")) (wCons (wC (.str " ")) (wCons (wC (.str "\n")) (wCons (wC (.str "_")) (wCons (wC (.str "-")) (wCons (wC (.str "{")) (wCons (wC (.str "`")) (wCons (wC (.str "Z")) wNil)))))))))) (wFn sp_law_take (wCons (wVar 0) (wCons (wC (.int 9)) wNil))))) (wSl slO (wVar 1) (wPart (wVar 2)) wNoPart))))))
theorem body_law_text {P : Program} {w : World} {T : Tb} {mg : Str → Option Value} {base : Heap} {f : Addr} (m : Bl mg) (c__law_take : Cal T P w mg base "_law_take" 1 2 sp_law_take) (cdv : Value) (A : Around) (outer : List Env) (s : Shared) (H : Hp) (E : XK) (hr : RoomG 1 (A.deeper (envOfC "_law_text" (defScope s_law_text) s.heap.objs.size f cdv))) :
    QSs T (cxOf (L2.CX P w) P w T.K mg base ["_law_bag_here", "_law_found", "_law_at", "_law_k"] "_law_text" (defScope s_law_text) f cdv A outer s H E) (fun cls d _ H => E cls d H) (defBody s_law_text) t_law_text :=
  have sc := sc_law_text
  (qs_cons (q_set (i := 1) (by exact sc.nd) (by rfl) (by exact Or.inl rfl) (by exact (q_joinL (by rfl) q_str (by exact (qa_cons (by exact (q_lc (own := [("_law_k", 3)]) (by rfl) (by exact sc.nd) (qi_range (by rfl) (by exact m.range_) (by exact (qa_cons (by exact (qcl (by exact takes_of rfl rfl rfl rfl) (by rfl) (by exact c__law_take) (by exact hr.mono (by decide)) (by rfl) (by exact (qa_cons (by exact (qv 0 (by rfl) (by exact Or.inr (Or.inl rfl)))) (qa_cons q_int qa_nil))))) qa_nil))) (by exact (show BlkOk ["_law_bag_here", "_law_found", "_law_at", "_law_k"] (defScope s_law_text) _ [("_law_k", 3)] from blkOk_by (by decide +kernel))) (by exact (gok_name 3 (by decide))) (fun s H C cl fp => by exact (pg_name (i := 3) (by exact sc.nd) (by rfl) (by exact Or.inl rfl))) (fun s H C cl fp => by exact qts_nil) (fun s H C cl fp => by exact (by exact (q_ix (by rfl) q_str (by exact (qcl (by exact takes0) (by rfl) (by exact c__law_take) (by exact hr.mono (by decide)) (by rfl) (by exact (qa_cons (by exact (qv 0 (by rfl) (by exact Or.inr (Or.inl rfl)))) (qa_cons q_int qa_nil)))))))))) qa_nil)))))
      (qs_cons (q_if (by exact (qt_gt (by exact (qcl (by exact takes_of rfl rfl rfl rfl) (by rfl) (by exact c__law_take) (by exact hr.mono (by decide)) (by rfl) (by exact (qa_cons (by exact (qv 0 (by rfl) (by exact Or.inr (Or.inl rfl)))) (qa_cons q_int qa_nil))))) q_int)) (qs_one (q_ret (by exact (qv 1 (by rfl) (by exact Or.inl rfl))))) qs_nil)
      (qs_cons (q_set (i := 2) (by exact sc.nd) (by rfl) (by exact Or.inl rfl) (by exact (qcl (by exact takes_of rfl rfl rfl rfl) (by rfl) (by exact c__law_take) (by exact hr.mono (by decide)) (by rfl) (by exact (qa_cons (by exact (qv 0 (by rfl) (by exact Or.inr (Or.inl rfl)))) (qa_cons (by exact (q_add (by rfl) (by exact (q_len (by rfl) (by exact m.len_) (by exact (qa_cons (by exact (qv 1 (by rfl) (by exact Or.inl rfl))) qa_nil)))) q_int)) qa_nil))))))
      (qs_one (q_ret (by exact (q_add (by rfl) (by exact (q_add (by rfl) (by exact (q_slice (by rfl) (by exact (qv 1 (by rfl) (by exact Or.inl rfl))) qo_none (qo_some (by exact (qv 2 (by rfl) (by exact Or.inl rfl)))))) (by exact (q_ix (by rfl) (by exact (q_lst (by exact (qa_cons q_str (qa_cons q_str (qa_cons q_str (qa_cons q_str (qa_cons q_str (qa_cons q_str (qa_cons q_str (qa_cons q_str (qa_cons q_str qa_nil)))))))))))) (by exact (qcl (by exact takes_of rfl rfl rfl rfl) (by rfl) (by exact c__law_take) (by exact hr.mono (by decide)) (by rfl) (by exact (qa_cons (by exact (qv 0 (by rfl) (by exact Or.inr (Or.inl rfl)))) (qa_cons q_int qa_nil))))))))) (by exact (q_slice (by rfl) (by exact (qv 1 (by rfl) (by exact Or.inl rfl))) (qo_some (by exact (qv 2 (by rfl) (by exact Or.inl rfl)))) qo_none)))))))))
abbrev s_law_thing : Stmt := top 11
theorem sc_law_thing : FnScope ["_law_bag_here", "_law_some", "_law_thing_here"] ["_law_bag_here"] (defScope s_law_thing) := ⟨rfl, rfl, rfl, by decide +kernel, rfl, by decide +kernel, by decide +kernel⟩
def t_law_thing : TSd :=
  (wSeq (wSet 1 (wLst (wCons (wC (.int 0)) (wCons (wC (.int 1)) (wCons (negO (wC (.int 1))) (wCons (wFn sp_law_take (wCons (wVar 0) (wCons (wOp powO (wC (.int 10)) (wC (.int 12))) wNil))) (wCons (wOp powO (wC (.int 10)) (wC (.int 60))) (wCons (wOp subO (wC (.int 1)) (wOp powO (wC (.int 10)) (wC (.int 45)))) (wCons (wC (.bl true)) (wCons (wC (.bl false)) (wCons (wC .non) wNil)))))))))))
  (wSeq (wSet 2 (wOp ixO (wOp addO (wVar 1) (wLst (wCons (wFn sp_law_text (wCons (wVar 0) wNil)) (wCons (wFn sp_law_text (wCons (wVar 0) wNil)) wNil)))) (wFn sp_law_take (wCons (wVar 0) (wCons (wC (.int 11)) wNil)))))
  (wRet (wOp ixO (wLst (wCons (wVar 2) (wCons (wVar 2) (wCons (wVar 2) (wCons (wLst (wCons (wVar 2) wNil)) (wCons (wTup (wCons (wVar 2) wNil)) (wCons (wDisp (((wC (.str "a")), (wVar 2)) :: [])) wNil))))))) (wFn sp_law_take (wCons (wVar 0) (wCons (wC (.int 6)) wNil)))))))
theorem body_law_thing {P : Program} {w : World} {T : Tb} {mg : Str → Option Value} {base : Heap} {f : Addr} (m : Bl mg) (c__law_take : Cal T P w mg base "_law_take" 1 2 sp_law_take) (c__law_text : Cal T P w mg base "_law_text" 2 1 sp_law_text) (cdv : Value) (A : Around) (outer : List Env) (s : Shared) (H : Hp) (E : XK) (hr : RoomG 2 (A.deeper (envOfC "_law_thing" (defScope s_law_thing) s.heap.objs.size f cdv))) :
    QSs T (cxOf (L2.CX P w) P w T.K mg base ["_law_bag_here", "_law_some", "_law_thing_here"] "_law_thing" (defScope s_law_thing) f cdv A outer s H E) (fun cls d _ H => E cls d H) (defBody s_law_thing) t_law_thing :=
  have sc := sc_law_thing
  (qs_cons (q_set (i := 1) (by exact sc.nd) (by rfl) (by exact Or.inl rfl) (by exact (q_lst (by exact (qa_cons q_int (qa_cons q_int (qa_cons (by exact (q_neg q_int)) (qa_cons (by exact (qcl (by exact takes_of rfl rfl rfl rfl) (by rfl) (by exact c__law_take) (by exact hr.mono (by decide)) (by rfl) (by exact (qa_cons (by exact (qv 0 (by rfl) (by exact Or.inl rfl))) (qa_cons (by exact (q_pow q_int q_int)) qa_nil))))) (qa_cons (by exact (q_pow q_int q_int)) (qa_cons (by exact (q_sub q_int (by exact (q_pow q_int q_int)))) (qa_cons q_bl (qa_cons q_bl (qa_cons q_non qa_nil)))))))))))))
      (qs_cons (q_set (i := 2) (by exact sc.nd) (by rfl) (by exact Or.inl rfl) (by exact (q_ix (by rfl) (by exact (q_add (by rfl) (by exact (qv 1 (by rfl) (by exact Or.inl rfl))) (by exact (q_lst (by exact (qa_cons (by exact (qcl (by exact takes_of rfl rfl rfl rfl) (by rfl) (by exact c__law_text) (by exact hr.mono (by decide)) (by rfl) (by exact (qa_cons (by exact (qv 0 (by rfl) (by exact Or.inl rfl))) qa_nil)))) (qa_cons (by exact (qcl (by exact takes_of rfl rfl rfl rfl) (by rfl) (by exact c__law_text) (by exact hr.mono (by decide)) (by rfl) (by exact (qa_cons (by exact (qv 0 (by rfl) (by exact Or.inl rfl))) qa_nil)))) qa_nil))))))) (by exact (qcl (by exact takes_of rfl rfl rfl rfl) (by rfl) (by exact c__law_take) (by exact hr.mono (by decide)) (by rfl) (by exact (qa_cons (by exact (qv 0 (by rfl) (by exact Or.inl rfl))) (qa_cons q_int qa_nil))))))))
      (qs_one (q_ret (by exact (q_ix (by rfl) (by exact (q_lst (by exact (qa_cons (by exact (qv 2 (by rfl) (by exact Or.inl rfl))) (qa_cons (by exact (qv 2 (by rfl) (by exact Or.inl rfl))) (qa_cons (by exact (qv 2 (by rfl) (by exact Or.inl rfl))) (qa_cons (by exact (q_lst (by exact (qa_cons (by exact (qv 2 (by rfl) (by exact Or.inl rfl))) qa_nil)))) (qa_cons (by exact (q_tup (by exact (qa_cons (by exact (qv 2 (by rfl) (by exact Or.inl rfl))) qa_nil)))) (qa_cons (by exact (q_disp (qp_cons q_str (by exact (qv 2 (by rfl) (by exact Or.inl rfl))) qp_nil))) qa_nil))))))))) (by exact (qcl (by exact takes_of rfl rfl rfl rfl) (by rfl) (by exact c__law_take) (by exact hr.mono (by decide)) (by rfl) (by exact (qa_cons (by exact (qv 0 (by rfl) (by exact Or.inl rfl))) (qa_cons q_int qa_nil)))))))))))
abbrev s_law : Stmt := top 12
theorem sc_law : FnScope ["_law_script", "_law_bag_here", "_law_turn", "_law_thing_here", "_law_shown", "_law_due", "_law_again", "_law_deep", "_law_k"] ["_law_script"] (defScope s_law) := ⟨rfl, rfl, rfl, by decide +kernel, rfl, by decide +kernel, by decide +kernel⟩
def t_law : TSd :=
  (wSeq (wSet 1 (wFn sp_law_bag (wCons (wVar 0) wNil)))
  (wSeq (wFor (wiRange (wCons (wC (.int 24)) wNil)) (gdName 2) (wSeq (wSet 3 (wFn sp_law_thing (wCons (wVar 1) wNil)))
  (wSeq (wPar 4 5 (wCons (wCall reprO (wCons (wVar 3) wNil)) (wCons (wLst (wCons (wFn sp_law_whole (wCons (wVar 3) wNil)) (wCons (wFn sp_law_is_name (wCons (wVar 3) wNil)) wNil))) wNil)))
  (wFor (wiRange (wCons (wC (.int 2)) wNil)) (gdName 6) (wIfS (wOrT (wNotT (wTest (wFn sp_law_alike (wCons (wLst (wCons (wFn sp_is_integer (wCons (wVar 3) wNil)) (wCons (wFn sp_is_name (wCons (wVar 3) wNil)) wNil))) (wCons (wVar 5) wNil))))) (wTest (wOp neO (wCall reprO (wCons (wVar 3) wNil)) (wVar 4)))) (wRet (wC (.bl false))) wNext)))))
  (wSeq (wSet 7 (wC (.str "a")))
  (wSeq (wFor (wiRange (wCons (wC (.int 20)) wNil)) (gdName 8) (wSet 7 (wOp ixO (wLst (wCons (wLst (wCons (wVar 7) wNil)) (wCons (wTup (wCons (wVar 7) wNil)) wNil))) (wOp modO (wVar 8) (wC (.int 2))))))
  (wSeq (wFor (wiLst (wLst (wCons (wOp mulDO (wLst (wCons (wC (.int 0)) wNil)) (wC (.int 19990))) (wCons (wVar 7) (wCons (wOp mulDO (wTup (wCons (wTup (wCons (wC (.str "a")) wNil)) wNil)) (wC (.int 9990))) (wCons (wOp mulDO (wC (.str "a")) (wC (.int 9000))) (wCons (wDisp (((wC (.str "a")), (wOp mulDO (wLst (wCons (wC (.int 0)) wNil)) (wC (.int 19980)))) :: [])) wNil))))))) (gdName 3) (wIfS (wOrT (wTest (wOp notBO (wFn sp_is_integer (wCons (wVar 3) wNil)) (wC (.bl false)))) (wTest (wOp notBO (wFn sp_is_name (wCons (wVar 3) wNil)) (wC (.bl false))))) (wRet (wC (.bl false))) wNext))
  (wRet (wC (.bl true))))))))
theorem body_law {P : Program} {w : World} {T : Tb} {mg : Str → Option Value} {base : Heap} {f : Addr} (m : Bl mg) (c__law_alike : Cal T P w mg base "_law_alike" 1 2 sp_law_alike) (c__law_bag : Cal T P w mg base "_law_bag" 1 1 sp_law_bag) (c__law_is_name : Cal T P w mg base "_law_is_name" 1 1 sp_law_is_name) (c__law_thing : Cal T P w mg base "_law_thing" 3 1 sp_law_thing) (c__law_whole : Cal T P w mg base "_law_whole" 1 1 sp_law_whole) (c_is_integer : Cal T P w mg base "is_integer" 1 1 sp_is_integer) (c_is_name : Cal T P w mg base "is_name" 1 1 sp_is_name) (cdv : Value) (A : Around) (outer : List Env) (s : Shared) (H : Hp) (E : XK) (hr : RoomG 3 (A.deeper (envOfC "law" (defScope s_law) s.heap.objs.size f cdv))) :
    QSs T (cxOf (L2.CX P w) P w T.K mg base ["_law_script", "_law_bag_here", "_law_turn", "_law_thing_here", "_law_shown", "_law_due", "_law_again", "_law_deep", "_law_k"] "law" (defScope s_law) f cdv A outer s H E) (fun cls d _ H => E cls d H) (defBody s_law) t_law :=
  have sc := sc_law
  (qs_cons (q_set (i := 1) (by exact sc.nd) (by rfl) (by exact Or.inl rfl) (by exact (qcl (by exact takes_of rfl rfl rfl rfl) (by rfl) (by exact c__law_bag) (by exact hr.mono (by decide)) (by rfl) (by exact (qa_cons (by exact (qv 0 (by rfl) (by exact Or.inl rfl))) qa_nil)))))
      (qs_cons (q_for (by exact passes_of rfl) (by rfl) (qi_range (by rfl) (by exact m.range_) (by exact (qa_cons q_int qa_nil))) (qg_name (i := 2) (by exact sc.nd) (by rfl) (by exact Or.inl rfl)) (qs_cons (q_set (i := 3) (by exact sc.nd) (by rfl) (by exact Or.inl rfl) (by exact (qcl (by exact takes_of rfl rfl rfl rfl) (by rfl) (by exact c__law_thing) (by exact hr.mono (by decide)) (by rfl) (by exact (qa_cons (by exact (qv 1 (by rfl) (by exact Or.inl rfl))) qa_nil)))))
      (qs_cons (q_par (i := 4) (j := 5) (by rfl) (by exact sc.nd) (by rfl) (by rfl) (by decide) (by rfl) (by rfl) (by exact (qa_cons (by exact (q_repr (by rfl) (by exact hr.g) (by exact hr.hu) (by exact m.repr_) (by exact (qa_cons (by exact (qv 3 (by rfl) (by exact Or.inl rfl))) qa_nil)))) (qa_cons (by exact (q_lst (by exact (qa_cons (by exact (qcl (by exact takes_of rfl rfl rfl rfl) (by rfl) (by exact c__law_whole) (by exact hr.mono (by decide)) (by rfl) (by exact (qa_cons (by exact (qv 3 (by rfl) (by exact Or.inl rfl))) qa_nil)))) (qa_cons (by exact (qcl (by exact takes_of rfl rfl rfl rfl) (by rfl) (by exact c__law_is_name) (by exact hr.mono (by decide)) (by rfl) (by exact (qa_cons (by exact (qv 3 (by rfl) (by exact Or.inl rfl))) qa_nil)))) qa_nil))))) qa_nil))) (by rfl))
      (qs_one (q_for (by exact passes_of rfl) (by rfl) (qi_range (by rfl) (by exact m.range_) (by exact (qa_cons q_int qa_nil))) (qg_name (i := 6) (by exact sc.nd) (by rfl) (by exact Or.inl rfl)) (qs_one (q_if (by exact (QW.qt (qw_or (by exact (qt_not (by exact (qt_val (by exact (qcl (by exact takes_of rfl rfl rfl rfl) (by rfl) (by exact c__law_alike) (by exact hr.mono (by decide)) (by rfl) (by exact (qa_cons (by exact (q_lst (by exact (qa_cons (by exact (qcl (by exact takes_of rfl rfl rfl rfl) (by rfl) (by exact c_is_integer) (by exact hr.mono (by decide)) (by rfl) (by exact (qa_cons (by exact (qv 3 (by rfl) (by exact Or.inl rfl))) qa_nil)))) (qa_cons (by exact (qcl (by exact takes_of rfl rfl rfl rfl) (by rfl) (by exact c_is_name) (by exact hr.mono (by decide)) (by rfl) (by exact (qa_cons (by exact (qv 3 (by rfl) (by exact Or.inl rfl))) qa_nil)))) qa_nil))))) (qa_cons (by exact (qv 5 (by rfl) (by exact Or.inl rfl))) qa_nil))))))))) (qw_or1 (by exact (qt_ne (by rfl) (by exact hr.hu) (by exact (q_repr (by rfl) (by exact hr.g) (by exact hr.hu) (by exact m.repr_) (by exact (qa_cons (by exact (qv 3 (by rfl) (by exact Or.inl rfl))) qa_nil)))) (by exact (qv 4 (by rfl) (by exact Or.inl rfl))))))))) (qs_one (q_ret q_bl)) qs_nil)))))))
      (qs_cons (q_set (i := 7) (by exact sc.nd) (by rfl) (by exact Or.inl rfl) q_str)
      (qs_cons (q_for (by exact passes_of rfl) (by rfl) (qi_range (by rfl) (by exact m.range_) (by exact (qa_cons q_int qa_nil))) (qg_name (i := 8) (by exact sc.nd) (by rfl) (by exact Or.inl rfl)) (qs_one (q_set (i := 7) (by exact sc.nd) (by rfl) (by exact Or.inl rfl) (by exact (q_ix (by rfl) (by exact (q_lst (by exact (qa_cons (by exact (q_lst (by exact (qa_cons (by exact (qv 7 (by rfl) (by exact Or.inl rfl))) qa_nil)))) (qa_cons (by exact (q_tup (by exact (qa_cons (by exact (qv 7 (by rfl) (by exact Or.inl rfl))) qa_nil)))) qa_nil))))) (by exact (q_mod (by exact (qv 8 (by rfl) (by exact Or.inl rfl))) q_int)))))))
      (qs_cons (q_for (by exact passes_of rfl) (by rfl) (qi_lst (by exact (q_lst (by exact (qa_cons (by exact (q_mulD (by rfl) (by exact (q_lst (by exact (qa_cons q_int qa_nil)))) q_int)) (qa_cons (by exact (qv 7 (by rfl) (by exact Or.inl rfl))) (qa_cons (by exact (q_mulD (by rfl) (by exact (q_tup (by exact (qa_cons (by exact (q_tup (by exact (qa_cons q_str qa_nil)))) qa_nil)))) q_int)) (qa_cons (by exact (q_mulD (by rfl) q_str q_int)) (qa_cons (by exact (q_disp (qp_cons q_str (by exact (q_mulD (by rfl) (by exact (q_lst (by exact (qa_cons q_int qa_nil)))) q_int)) qp_nil))) qa_nil)))))))) (by rfl)) (qg_name (i := 3) (by exact sc.nd) (by rfl) (by exact Or.inl rfl)) (qs_one (q_if (by exact (QW.qt (qw_or (by exact (qt_notB (by exact (qcl (by exact takes_of rfl rfl rfl rfl) (by rfl) (by exact c_is_integer) (by exact hr.mono (by decide)) (by rfl) (by exact (qa_cons (by exact (qv 3 (by rfl) (by exact Or.inl rfl))) qa_nil)))) q_bl)) (qw_or1 (by exact (qt_notB (by exact (qcl (by exact takes_of rfl rfl rfl rfl) (by rfl) (by exact c_is_name) (by exact hr.mono (by decide)) (by rfl) (by exact (qa_cons (by exact (qv 3 (by rfl) (by exact Or.inl rfl))) qa_nil)))) q_bl)))))) (qs_one (q_ret q_bl)) qs_nil)))
      (qs_one (q_ret q_bl)))))))
end K12
set_option Elab.async false
set_option linter.all false
set_option maxRecDepth 100000
set_option maxHeartbeats 4000000
namespace K12
open PySem PySem.Spec PyProof.Rows L2 DL
abbrev endsOf (Q : DK) (Ex : DX) : DEnds := { nx := fun _ G' => Q .non G', rt := Q, bk := fun _ _ => False, ct := fun _ _ => False, ex := fun c xs _ G' => Ex c xs G' }
local macro_rules | `(tactic| walk_at "rd") => `(tactic| simp only [wSeq, wRet, wRetN, wNext, wSet, wIfS, wTest, wOp, wC, wVar, wCall, wCons, wNil, wAnd, wOr, wNot, wAndT, wOrT, wNotT, wAugI, wSetI, wChain, wFn, wLstM, wLst, wTup, wSl, wPart, wNoPart, wMS, wYes, wDisp, wPairs, wiRange, exists_eq', exists_eq, List.cons.injEq, wipeE, gdName, wExpr, wLc, wiStr, wiLst, wiTup, itO_l, itO_f, itO_r, inSO_1, notInSO_1, isBO_1, notBO_1, wIf,
  lk, startD, List.map_cons, List.map_nil, List.length_cons, List.length_nil, List.replicate, List.cons_append, List.nil_append, Option.some.injEq, DO.lst.injEq, exists_eq_left', exists_eq_left, exists_and_left, D.bl.injEq, D.int.injEq, D.str.injEq, D.ref.injEq, D.ty.injEq, D.tup.injEq, List.set_cons_zero, List.set_cons_succ, Nat.sub_self, Nat.reduceAdd, Nat.reduceSub, true_and, and_true, if_true, if_false, ite_true, ite_false, Bool.false_eq_true, reduceIte, Bool.not_true, Bool.not_false,
  int0_ii, intO_ii, addO_ii, addO_ss, addO_tt, addO_ll, mulDO_ii, mulDO_li, mulDO_ti, mulDO_si, ixO_t, ixO_l, ixO_f, ixO_s, ixO_r, negO_c, lenO_1, lenO1_s, lenO1_t, lenO1_l, lenO1_f, absO_i, allO_1, isiO_1, reprO_1, joinO_1, appendO_1, slO_t, slO_l, slO_f, slO_s, setO_ri, augAt_ri, topD_i, topD_s, topD_b, topD_n, topD_t, topD_l, topD_f, topD_d, okD_i, okD_b, okD_n, eqD_ii, tyD_n, tyD_b, tyD_i, tyD_s, tyD_t, tyD_l, tyD_f, tyD_d, eqO_ss, eqO_i, eqO_b, eqO_l, eqO_t, eqO_r, neO_ss, neO_i, neO_b, neO_l, neO_t, neO_r, eqG, neG, atI_0, atI_1, atI_2, atI_3, ixN_40, ixN_41, ixN_42, Int.reduceLE, Int.reduceLT, gset_same, gset_gset, decide_eq_true_eq])
theorem nb {b : Bool} (h : ¬ b = true) : b = false := by cases b <;> simp_all
theorem read_is_integer (ds : List D) (G : GH) (Q : DK) (Ex : DX) (h : sp_is_integer ds G Q Ex) : t_is_integer (endsOf Q Ex) (startD ["thing"] ds) G := by
  obtain ⟨d, a, rfl, ⟨ha, _⟩, q⟩ := h
  unfold t_is_integer
  walk_at "rd"
  refine ⟨a, ha, ?_⟩
  unfold wholeB at q
  split
  · rename_i e
    rw [e, Bool.true_and] at q
    exact ⟨a, ha, q⟩
  · rename_i e
    rw [nb e, Bool.false_and] at q
    exact q
theorem read_law_whole (ds : List D) (G : GH) (Q : DK) (Ex : DX) (h : sp_law_whole ds G Q Ex) : t_law_whole (endsOf Q Ex) (startD ["_law_thing_here"] ds) G := by
  exact read_is_integer ds G Q Ex h
theorem cm_r {i j : Int} (h : -(2 ^ 64) < j) (h' : j < 2 ^ 64) : CMulW i j ∨ CMul i j := .inr (.inr ⟨h, h'⟩)
theorem cm_l {i j : Int} (h : -(2 ^ 64) < i) (h' : i < 2 ^ 64) : CMulW i j ∨ CMul i j := .inr (.inl ⟨h, h'⟩)
theorem cd_m {i j : Int} (h : 0 < j) (h' : j < 2 ^ 64) : CDivW i j := ⟨h, by
  have h2 : j.natAbs < 2 ^ 64 := by omega
  have h3 : j.natAbs.log2 < 64 := (Nat.log2_lt (by omega)).mpr h2
  omega⟩
theorem div_bag {s m : Int} (h : 0 ≤ s) (m0 : 0 < m) : 0 ≤ s / m := Int.ediv_nonneg h (by omega)
/-- the part of _law_take behind the draw -/
theorem take_ends {m : Int} {a : Addr} {G : GH} {Q : DK} {s0 s1 s2 : Int} {cs : List D} (m0 : 0 < m) (m1 : m < 2 ^ 64) (h0 : 0 ≤ s0) (h1 : 0 ≤ s1) (h1' : s1 < 2147483647) (h2 : 0 ≤ s2) (hc : IntsD cs)
    (k : ∀ (v : Int) (b' : List D), 0 ≤ v → v < m → BagOk b' → Q (.int v) (gset G a (.lst b'))) : 
    (0 < s0 → 0 < m ∧ CDivW s0 m ∧ Q (.int (s0 % m)) (gset G a (.lst [.int (s0 / m), .int s1, .int s2, .lst cs]))) ∧ ∀ v : Int, Q (.int (v % m)) (gset G a (.lst [.int s0, .int s1, .int s2, .lst cs])) :=
  ⟨fun _ => ⟨m0, cd_m m0 m1, k _ _ (Int.emod_nonneg _ (by omega)) (Int.emod_lt_of_pos _ m0) ⟨_, _, _, _, rfl, div_bag h0 m0, h1, h1', h2, hc⟩⟩,
    fun v => k _ _ (Int.emod_nonneg _ (by omega)) (Int.emod_lt_of_pos _ m0) ⟨_, _, _, _, rfl, h0, h1, h1', h2, hc⟩⟩
local macro_rules | `(tactic| walk_at "tail") => `(tactic| (
  refine ⟨cm_r (by decide) (by decide), cm_l (by omega) (by omega), cm_r (by decide) (by decide), ?_⟩
  split
  · exact ⟨cm_r (by decide) (by decide), by assumption, by apply_assumption⟩
  · exact ⟨cd_m (by decide) (by decide), by assumption, by apply_assumption⟩))
theorem read_law_take (ds : List D) (G : GH) (Q : DK) (Ex : DX) (h : sp_law_take ds G Q Ex) : t_law_take (endsOf Q Ex) (startD ["_law_bag_here", "_law_many", "_law_cell", "_law_value", "_law_first", "_law_second"] ds) G := by
  obtain ⟨a, m, b, rfl, m0, m1, g, ⟨s0, s1, s2, cs, rfl, h0, h1, h1', h2, hc⟩, k⟩ := h
  unfold t_law_take
  repeat (first | walk_at "rd" | simp only [g])
  have new : ∀ x : Int, 0 ≤ x % 2147483647 ∧ x % 2147483647 < 2147483647 := fun x => by omega
  by_cases z : s0 = 0
  · rw [if_pos z]
    subst z
    by_cases l : s2 < cs.length
    · rw [if_pos l]
      have hl : s2.toNat < cs.length := by omega
      obtain ⟨c, ec, c0⟩ := hc cs[s2.toNat] (List.getElem_mem hl)
      refine ⟨.int c, by rw [atI_get cs h2, List.getElem?_eq_getElem hl, ec], ?_⟩
      repeat (first | walk_at "rd" | simp only [g])
      generalize s1 * 48271 + c % 2147483647 + 7919 * (s2 + 1) = w
      obtain ⟨w0, w1⟩ := new w
      by_cases big : 1000000000000000000 ≤ c
      · rw [if_pos big, if_pos (by omega)]
        exact ⟨cm_r (by decide) (by decide), cm_l (by decide) (by decide), (take_ends m0 m1 c0 w0 w1 (show 0 ≤ s2 + 1 by omega) hc k).1 (by omega)⟩
      · rw [if_neg big]
        refine ⟨cm_r (by decide) (by decide), cm_l (by decide) (by decide), ?_⟩
        have kv := (take_ends m0 m1 (Int.le_refl 0) w0 w1 (show 0 ≤ s2 + 1 by omega) hc k).2
        refine ⟨cm_r (by decide) (by decide), cm_l (by omega) (by omega), cm_r (by decide) (by decide), ?_⟩
        split
        · exact ⟨cm_r (by decide) (by decide), m0, kv _⟩
        · exact ⟨cd_m (by decide) (by decide), m0, kv _⟩
    · rw [if_neg l]
      refine ⟨cm_r (by decide) (by decide), cm_l (by decide) (by decide), ?_⟩
      rw [if_neg (by decide)]
      generalize s1 * 48271 + 0 % 2147483647 + 7919 * (s2 + 1) = w
      obtain ⟨w0, w1⟩ := new w
      have kv := (take_ends m0 m1 (Int.le_refl 0) w0 w1 (show 0 ≤ s2 + 1 by omega) hc k).2
      refine ⟨cm_r (by decide) (by decide), cm_l (by omega) (by omega), cm_r (by decide) (by decide), ?_⟩
      split
      · exact ⟨cm_r (by decide) (by decide), m0, kv _⟩
      · exact ⟨cd_m (by decide) (by decide), m0, kv _⟩
  · rw [if_neg z, if_pos (by omega)]
    exact (take_ends m0 m1 h0 h1 h1' h2 hc k).1 (by omega)
theorem read_law_alike (ds : List D) (G : GH) (Q : DK) (Ex : DX) (h : sp_law_alike ds G Q Ex) : t_law_alike (endsOf Q Ex) (startD ["_law_found", "_law_due"] ds) G := by
  obtain ⟨d, rfl, ⟨s1, s2, s3, s4, s5⟩, q⟩ := h
  have et : topD G d = d := by cases d <;> first | rfl | (cases s2)
  unfold t_law_alike
  walk_at "rd"
  refine eqO_self s1 et ?_
  walk_at "rd"
  simp only [s2, s3, s4, s5]
  walk_at "rd"
  exact q
theorem tyD_str {G : GH} {d : D} {a : String} (h : tyD G d = some a) (e : instB a "str" = true) : ∃ z, d = .str z := by
  cases d with
  | str z => exact ⟨z, rfl⟩
  | ref p =>
    have h : tyO (G p) = some a := h
    cases eo : G p with
    | none => rw [eo] at h; cases h
    | some o => rw [eo] at h; cases o <;> (cases h <;> exact absurd e (by decide))
  | _ => cases h <;> exact absurd e (by decide)
theorem not_name {G : GH} {d : D} {a : String} (h : tyD G d = some a) (e : ¬ instB a "str" = true) : nameB d = false := by
  cases d with
  | str z => cases h; exact absurd (by decide) e
  | _ => rfl
theorem read_is_name (ds : List D) (G : GH) (Q : DK) (Ex : DX) (h : sp_is_name ds G Q Ex) : t_is_name (endsOf Q Ex) (startD ["thing", "letter"] ds) G := by
  obtain ⟨d, a, rfl, ⟨ha, hs⟩, q⟩ := h
  unfold t_is_name
  walk_at "rd"
  refine ⟨a, ha, ?_⟩
  by_cases e : instB a "str" = true
  · obtain ⟨z, rfl⟩ := tyD_str ha e
    obtain ⟨hz, _⟩ := hs z rfl
    rw [e]
    walk_at "rd"
    have q : Q (.bl (decide (1 ≤ z.length) && (decide (z.length ≤ 8) && z.cps.toList.all fun c => decide (c ∈ letters.cps.toList)))) G := q
    refine ⟨hz, ?_⟩
    by_cases l1 : 1 ≤ z.length
    · rw [if_pos (by omega)]
      rw [decide_eq_true l1, Bool.true_and] at q
      by_cases l8 : z.length ≤ 8
      · rw [if_neg (by rw [decide_eq_true (show (z.length : Int) ≤ 8 by omega)]; decide)]
        rw [decide_eq_true l8, Bool.true_and] at q
        refine ⟨hz, fun p np => ?_⟩
        refine lc_pure (Q := fun d G => ∃ xs, d = .lst xs ∧ ∃ bs, blsD xs = some bs ∧ Q (.bl (bs.all id)) G) (fun d => some (.bl (decide (sign1 d ∈ letters.cps.toList)))) np (fun _ => trivial) _ (fun d hd acc k hk => ?_) ?_
        · obtain ⟨c, _, rfl⟩ := mem_strD hd
          walk_at "rd"
          exact hk
        · refine ⟨_, rfl, z.cps.toList.map fun c => decide (c ∈ letters.cps.toList), ?_, ?_⟩
          · rw [strD_filterMap]
            show blsD (z.cps.toList.filterMap fun c => some (D.bl (decide (c ∈ letters.cps.toList)))) = _
            rw [List.filterMap_eq_map', blsD_map]
          · rw [all_id]
            exact q
      · rw [if_pos (by rw [decide_eq_false (show ¬ (z.length : Int) ≤ 8 by omega)]; rfl)]
        rw [decide_eq_false l8, Bool.false_and] at q
        exact q
    · rw [if_neg (by omega)]
      rw [decide_eq_false l1, Bool.false_and] at q
      exact q
  · rw [nb e]
    rw [not_name ha e] at q
    exact q
def inL (c : Nat) : Bool := decide (c ∈ letters.cps.toList)
theorem eqvAll_nil (xs : List D) : PyData.eqvAll (pyDs xs) [] = xs.isEmpty := by
  cases xs with
  | nil => rfl
  | cons x r => unfold pyDs; rfl
theorem eqD_nil (xs : List D) : eqD (.lst xs) (.lst []) = xs.isEmpty := by
  unfold eqD pyD
  rw [PyData.eqv]
  exact eqvAll_nil xs
theorem ok_signs : ∀ (cs : List Nat), (∀ c ∈ cs, c < 0x110000) → PyData.canLayAll0 (pyDs (cs.map fun c => D.str ⟨#[c]⟩)) = true ∧ PyData.depthAll (pyDs (cs.map fun c => D.str ⟨#[c]⟩)) = 0
  | [], _ => ⟨rfl, rfl⟩
  | c :: cs, h => by
    obtain ⟨a, b⟩ := ok_signs cs fun d hd => h d (List.mem_cons_of_mem _ hd)
    rw [List.map_cons]
    unfold pyDs pyD PyData.canLayAll0 PyData.depthAll PyData.canLay0 PyData.depth
    refine ⟨?_, by rw [b]; rfl⟩
    rw [a, Bool.and_true]
    unfold PyData.strOk
    simpa using h c List.mem_cons_self
theorem okD_signs {cs : List Nat} (h : ∀ c ∈ cs, c < 0x110000) : okD (.lst (cs.map fun c => D.str ⟨#[c]⟩)) = true := by
  obtain ⟨a, b⟩ := ok_signs cs h
  unfold okD SeqAt.shaped pyD
  rw [PyData.canLay0, PyData.depth, a, b]
  rfl
theorem strOk_mem {z : Str} (h : PyData.strOk z = true) : ∀ c ∈ z.cps.toList, c < 0x110000 := by
  intro c hc
  unfold PyData.strOk at h
  have := Array.all_eq_true_iff_forall_mem.mp h c (by simpa using hc)
  simpa using this
theorem filter_signs (z : Str) (p : Nat → Bool) : (strD z).filterMap (fun d => if p (sign1 d) = true then none else some d) = (z.cps.toList.filter fun c => !p c).map fun c => D.str ⟨#[c]⟩ := by
  rw [strD_filterMap]
  induction z.cps.toList with
  | nil => rfl
  | cons c r ih =>
    rw [List.filterMap_cons, List.filter_cons]
    cases hp : p c with
    | true =>
      rw [if_pos (show p (sign1 (.str ⟨#[c]⟩)) = true from hp), if_neg (by decide)]
      exact ih
    | false =>
      rw [if_neg (show ¬ p (sign1 (.str ⟨#[c]⟩)) = true by rw [show p (sign1 (.str ⟨#[c]⟩)) = false from hp]; decide), if_pos (by decide), List.map_cons]
      exact congrArg _ ih
theorem empty_iff {z : Str} : z = "" ↔ z.length = 0 := by
  constructor
  · intro h; rw [h]; rfl
  · intro h
    obtain ⟨cps⟩ := z
    have e : cps = #[] := Array.eq_empty_of_size_eq_zero h
    rw [e]
    rfl
theorem read_law_is_name (ds : List D) (G : GH) (Q : DK) (Ex : DX) (h : sp_law_is_name ds G Q Ex) : t_law_is_name (endsOf Q Ex) (startD ["_law_thing_here", "_law_letter"] ds) G := by
  obtain ⟨d, a, rfl, ⟨ha, hs⟩, q⟩ := h
  unfold t_law_is_name
  walk_at "rd"
  refine ⟨a, ha, ?_⟩
  by_cases e : instB a "str" = true
  · obtain ⟨z, rfl⟩ := tyD_str ha e
    obtain ⟨hz, hk⟩ := hs z rfl
    rw [e]
    walk_at "rd"
    have q : Q (.bl (decide (1 ≤ z.length) && (decide (z.length ≤ 8) && z.cps.toList.all fun c => decide (c ∈ letters.cps.toList)))) G := q
    by_cases z0 : z = ""
    · rw [if_pos z0]
      rw [decide_eq_false (show ¬ 1 ≤ z.length by rw [empty_iff.mp z0]; decide), Bool.false_and] at q
      exact q
    · rw [if_neg z0]
      have l1 : 1 ≤ z.length := by
        have : z.length ≠ 0 := fun h => z0 (empty_iff.mpr h)
        omega
      rw [decide_eq_true l1, Bool.true_and] at q
      refine ⟨hz, ?_⟩
      by_cases l8 : z.length ≤ 8
      · rw [if_neg (by omega)]
        rw [decide_eq_true l8, Bool.true_and] at q
        refine ⟨hz, fun p np => ?_⟩
        refine lc_pure (Q := fun d G => 0 ≤ sizeLine ∧ okD d = true ∧ okD (.lst []) = true ∧ Q (.bl (eqD d (.lst []))) G) (fun d => if inL (sign1 d) = true then none else some d) np (fun _ => trivial) _ (fun d hd acc kk hkk => ?_) ?_ 
        · obtain ⟨c, _, rfl⟩ := mem_strD hd
          walk_at "rd"
          show if (!decide (c ∈ letters.cps.toList)) = true then kk (acc ++ [D.str ⟨#[c]⟩]) (gset G p (.lst (acc ++ [D.str ⟨#[c]⟩]))) else kk acc (gset G p (.lst acc))
          have hkk : kk (acc ++ (if decide (c ∈ letters.cps.toList) = true then none else some (D.str ⟨#[c]⟩)).toList) (gset G p (.lst (acc ++ (if decide (c ∈ letters.cps.toList) = true then none else some (D.str ⟨#[c]⟩)).toList))) := hkk
          cases hc : decide (c ∈ letters.cps.toList) with
          | true =>
            rw [hc, if_pos rfl] at hkk
            rw [if_neg (by decide)]
            simpa using hkk
          | false =>
            rw [hc, if_neg Bool.false_ne_true] at hkk
            rw [if_pos (by decide)]
            exact hkk
        · rw [filter_signs]
          refine ⟨Nat.zero_le _, okD_signs fun c hc => strOk_mem hk c (List.mem_filter.mp hc).1, rfl, ?_⟩
          rw [eqD_nil]
          have e : ((z.cps.toList.filter fun c => !inL c).map fun c => D.str ⟨#[c]⟩).isEmpty = z.cps.toList.all inL := by
            rw [List.isEmpty_map]
            induction z.cps.toList with
            | nil => rfl
            | cons c r ih =>
              rw [List.filter_cons, List.all_cons]
              cases hc : inL c with
              | true => rw [if_neg (by decide), Bool.true_and]; exact ih
              | false => rw [if_pos (by decide), Bool.false_and]; rfl
          rw [e]
          exact q
      · rw [if_pos (by omega)]
        rw [decide_eq_false l8, Bool.false_and] at q
        exact q
  · rw [nb e]
    rw [not_name ha e] at q
    exact q
def absV : D → Int
  | .int i => if i < 0 then -i else i
  | _ => 0
theorem absV_nn (d : D) : 0 ≤ absV d := by
  cases d with
  | int i =>
    show 0 ≤ if i < 0 then -i else i
    split <;> omega
  | _ => exact Int.le_refl 0
theorem read_law_bag (ds : List D) (G : GH) (Q : DK) (Ex : DX) (h : sp_law_bag ds G Q Ex) : t_law_bag (endsOf Q Ex) (startD ["_law_script", "_law_cell"] ds) G := by
  obtain ⟨ns, rfl, hn, k⟩ := h
  unfold t_law_bag scriptD
  walk_at "rd"
  intro p np
  refine lc_pure (Q := fun d G => 4 ≤ sizeLine ∧ ∀ p, G p = none → Q (.ref p) (gset G p (.lst [.int 0, .int 1234567891, .int 0, d]))) (fun d => some (.int (absV d))) np (fun _ => trivial) _ (fun d hd acc kk hkk => ?_) ?_
  · have hm : d ∈ ns.map D.int := List.mem_of_mem_drop (List.mem_of_mem_take hd)
    obtain ⟨n, _, rfl⟩ := List.mem_map.mp hm
    walk_at "rd"
    exact hkk
  · refine ⟨by decide, fun p1 np1 => k p1 _ np1 ⟨_, _, _, _, rfl, by decide, by decide, by decide, by decide, ?_⟩⟩
    intro d hd
    obtain ⟨e, _, h⟩ := List.mem_filterMap.mp hd
    cases h
    exact ⟨_, rfl, absV_nn e⟩
theorem sign_at (l : List Nat) (hs : ∀ c ∈ l, c < 0x110000) {v : Int} (h0 : 0 ≤ v) (h1 : v < l.length) : ∃ c, atI l v = some c ∧ c < 0x110000 := by
  have h : v.toNat < l.length := by omega
  exact ⟨l[v.toNat], by rw [atI_get l h0, List.getElem?_eq_getElem h], hs _ (List.getElem_mem h)⟩
theorem letters_len : letters.cps.toList.length = 26 := by decide
theorem letters_ok : ∀ c ∈ letters.cps.toList, c < 0x110000 := by decide +kernel
def marks : List D := [.str "A", .str "0", .str " ", .str "\n", .str "_", .str "-", .str "{", .str "`", .str "Z"]
def isMark : D → Bool
  | .str z => decide (z.cps.size = 1) && PyData.strOk z
  | _ => false
theorem marks_ok : ∀ y ∈ marks, isMark y = true := by decide +kernel
theorem mark_at {v : Int} (h0 : 0 ≤ v) (h1 : v < 9) : ∃ c, atI marks v = some (.str (tx [c])) ∧ c < 0x110000 := by
  have h : v.toNat < marks.length := by show _ < 9; omega
  have hm := marks_ok _ (List.getElem_mem h)
  rw [atI_get marks h0, List.getElem?_eq_getElem h]
  cases e : marks[v.toNat] with
  | str z =>
    rw [e] at hm
    obtain ⟨m1, m2⟩ := Bool.and_eq_true_iff.mp (show (decide (z.cps.size = 1) && PyData.strOk z) = true from hm)
    obtain ⟨cps⟩ := z
    have m1 : cps.size = 1 := of_decide_eq_true m1
    obtain ⟨l⟩ := cps
    match l, m1 with
    | [c], _ => exact ⟨c, rfl, strOk_mem m2 c (by simp)⟩
  | _ => rw [e] at hm; cases hm
theorem read_law_text (ds : List D) (G : GH) (Q : DK) (Ex : DX) (h : sp_law_text ds G Q Ex) : t_law_text (endsOf Q Ex) (startD ["_law_bag_here", "_law_found", "_law_at", "_law_k"] ds) G := by
  obtain ⟨a, b, rfl, g, hb, k⟩ := h
  unfold t_law_text
  walk_at "rd"
  refine ⟨a, 11, b, rfl, by decide, by decide, g, hb, fun v b1 v0 v1 hb1 => ?_⟩
  walk_at "rd"
  refine ⟨by omega, by omega, fun p np => ?_⟩
  have hap : p ≠ a := by rintro rfl; rw [gset_same] at np; cases np
  have np0 : G p = none := by rw [gset_ne hap] at np; exact np
  refine lc_draw (J := fun d => ∃ b, d = .lst b ∧ BagOk b) (R := IsSign) (n := v.toNat) (fun _ _ => trivial) (fun d b acc kk hJ hk => ?_) (fun acc b2 hR hl hJ => ?_) (rangeD v.toNat) [] b1 ?_ (fun _ h => nomatch h) ⟨_, rfl, hb1⟩
  · obtain ⟨b0, e, hb0⟩ := hJ
    cases e
    walk_at "rd"
    refine ⟨a, 26, b, rfl, by decide, by decide, gset_two hap, hb0, fun v b' w0 w1 hb' => ?_⟩
    walk_at "rd"
    obtain ⟨c, hc, c0⟩ := sign_at letters.cps.toList letters_ok w0 (by rw [letters_len]; exact w1)
    refine ⟨by decide, c, hc, by rw [gset_ne hap, gset_same], ?_⟩
    rw [gset_swap hap, gset_gset]
    exact hk _ _ ⟨c, rfl, c0⟩ ⟨_, rfl, hb'⟩
  · obtain ⟨b0, e, hb0⟩ := hJ
    cases e
    obtain ⟨cs, rfl, hcs⟩ := signs_of hR
    have hl : cs.length = v.toNat := by simpa using hl
    have hn : cs.length ≤ 10 := by omega
    rw [gdel_gset (by rw [gset_ne hap]; exact np0)]
    have ld := tx_len cs
    refine ⟨_, rfl, _, strs_signs cs, ?_, ?_⟩
    · rw [sum_ones]
      show cs.length + _ * 0 ≤ _
      omega
    simp only [join_signs]
    refine ⟨a, 3, b2, rfl, by decide, by decide, gset_same, hb0, fun v3 b3 _ _ hb3 => ?_⟩
    walk_at "rd"
    split
    · exact k _ _ (by rw [ld]; omega) (tx_ok hcs) hb3
    · refine ⟨by rw [ld, sizeLine_eq]; omega, a, _, b3, rfl, by omega, by rw [ld]; omega, gset_same, hb3, fun at_ b4 at0 at1 hb4 => ?_⟩
      have at1 : at_ < cs.length + 1 := by rw [ld] at at1; exact at1
      walk_at "rd"
      refine ⟨by rw [ld, sizeLine_eq]; omega, by decide, a, 9, b4, rfl, by decide, by decide, gset_same, hb4, fun v5 b5 m0 m1 hb5 => ?_⟩
      obtain ⟨c, hc, c0⟩ := mark_at m0 m1
      walk_at "rd"
      refine ⟨_, hc, ?_⟩
      walk_at "rd"
      rw [cut_lo cs at0 (by omega), cut_hi cs at0 (by omega)]
      have lt : (cs.take at_.toNat).length ≤ 10 := by rw [List.length_take]; omega
      have ldr : (cs.drop at_.toNat).length ≤ 10 := by rw [List.length_drop]; omega
      have all : (cs.take at_.toNat ++ [c] ++ cs.drop at_.toNat).length ≤ 11 := by
        rw [List.length_append, List.length_append, List.length_take, List.length_drop, List.length_singleton]
        omega
      rw [tx_cat, tx_cat, tx_len, tx_len, tx_len, tx_len, tx_len, sizeLine_eq]
      rw [List.length_append, List.length_singleton] at *
      refine ⟨by omega, by omega, by omega, k _ _ (by rw [tx_len]; rw [List.length_append]; exact all) (tx_ok fun d hd => ?_) hb5⟩
      rcases List.mem_append.mp hd with hd | hd
      · rcases List.mem_append.mp hd with hd | hd
        · exact hcs d (List.mem_of_mem_take hd)
        · rw [List.mem_singleton.mp hd]; exact c0
      · exact hcs d (List.mem_of_mem_drop hd)
  · show 0 + (rangeD v.toNat).length = v.toNat
    rw [rangeD_len]
    omega
theorem pick (l : List D) {P : D → Prop} (h : ∀ e ∈ l, P e) {y : Int} (h0 : 0 ≤ y) (h1 : y < l.length) : ∃ d, atI l y = some d ∧ P d := by
  have hl : y.toNat < l.length := by omega
  exact ⟨l[y.toNat], by rw [atI_get l h0, List.getElem?_eq_getElem hl], h _ (List.getElem_mem hl)⟩
theorem p12 : (10 : Int) ^ Int.toNat 12 = 1000000000000 := by decide +kernel
theorem p60 : ((10 : Int) ^ Int.toNat 60).natAbs ≤ 10 ^ 60 := by decide +kernel
theorem p45 : ((1 : Int) - 10 ^ Int.toNat 45).natAbs ≤ 10 ^ 60 := by decide +kernel
theorem p60' : 1000000000000 ≤ (10 : Nat) ^ 60 := by decide +kernel
theorem read_law_thing (ds : List D) (G : GH) (Q : DK) (Ex : DX) (h : sp_law_thing ds G Q Ex) : t_law_thing (endsOf Q Ex) (startD ["_law_bag_here", "_law_some", "_law_thing_here"] ds) G := by
  obtain ⟨a, b, rfl, g, hb, k⟩ := h
  unfold t_law_thing
  walk_at "rd"
  rw [p12]
  refine ⟨⟨by decide, by decide, by decide⟩, a, _, b, rfl, by decide, by decide, g, hb, fun v b1 v0 v1 hb1 => ?_⟩
  refine ⟨⟨by decide, by decide, by decide⟩, ⟨by decide, by decide, by decide⟩, by decide, a, b1, rfl, gset_same, hb1, fun z1 b2 l1 o1 hb2 => ?_⟩
  refine ⟨a, b2, rfl, gset_same, hb2, fun z2 b3 l2 o2 hb3 => ?_⟩
  refine ⟨by decide, by decide, a, _, b3, rfl, by decide, by decide, gset_same, hb3, fun y b4 y0 y1 hb4 => ?_⟩
  have small : ∀ i : Int, i.natAbs ≤ 1000000000000 → i.natAbs ≤ 10 ^ 60 := fun i h => Nat.le_trans h p60'
  obtain ⟨d, hd, pd⟩ := pick [D.int 0, D.int 1, D.int (-1), D.int v, D.int (10 ^ Int.toNat 60), D.int (1 - 10 ^ Int.toNat 45), D.bl true, D.bl false, D.non, D.str z1, D.str z2] (P := Plain1) (by
    intro e he
    simp only [List.mem_cons, List.not_mem_nil, or_false] at he
    rcases he with rfl | rfl | rfl | rfl | rfl | rfl | rfl | rfl | rfl | rfl | rfl
    · exact .int _ (small _ (by decide))
    · exact .int _ (small _ (by decide))
    · exact .int _ (small _ (by decide))
    · exact .int _ (small _ (by omega))
    · exact .int _ p60
    · exact .int _ p45
    · exact .bl _
    · exact .bl _
    · exact .non
    · exact .str _ l1 o1
    · exact .str _ l2 o2) y0 y1
  repeat (first | walk_at "rd" | simp only [gset_gset])
  refine ⟨d, hd, by decide, by decide, fun p np => ⟨[.inr "a"], rfl, by decide, by decide, ?_⟩⟩
  have hap : p ≠ a := by rintro rfl; rw [gset_same] at np; cases np
  rw [gdel_gset np]
  refine ⟨a, _, b4, rfl, by decide, by decide, gset_same, hb4, fun w b5 w0 w1 hb5 => ?_⟩
  obtain ⟨e, he, pe⟩ := pick [d, d, d, .lst [d], .tup [d], .dic [.inr "a"] [d]] (P := Thing) (by
    intro e he
    simp only [List.mem_cons, List.not_mem_nil, or_false] at he
    rcases he with rfl | rfl | rfl | rfl | rfl | rfl
    · exact .one pd
    · exact .one pd
    · exact .one pd
    · exact .lst pd
    · exact .tup pd
    · exact .dic pd) w0 w1
  walk_at "rd"
  exact ⟨e, he, k _ _ pe hb5⟩
end K12
set_option Elab.async false
set_option linter.all false
set_option maxRecDepth 100000
set_option maxHeartbeats 4000000
namespace K12
open PySem PySem.Spec PyProof.Rows L2 DL
local macro_rules | `(tactic| walk_at "rd") => `(tactic| simp only [wSeq, wRet, wRetN, wNext, wSet, wIfS, wTest, wOp, wC, wVar, wCall, wCons, wNil, wAnd, wOr, wNot, wAndT, wOrT, wNotT, wAugI, wSetI, wChain, wFn, wLstM, wLst, wTup, wSl, wPart, wNoPart, wMS, wYes, wPar, wDisp, wPairs, wiRange, exists_eq', exists_eq, List.cons.injEq, wipeE, gdName, wExpr, wLc, wiStr, wiLst, wiTup, itO_l, itO_f, itO_r, inSO_1, notInSO_1, isBO_1, notBO_1, wIf,
  lk, startD, List.map_cons, List.map_nil, List.length_cons, List.length_nil, List.replicate, List.cons_append, List.nil_append, Option.some.injEq, DO.lst.injEq, exists_eq_left', exists_eq_left, exists_and_left, D.bl.injEq, D.int.injEq, D.str.injEq, D.ref.injEq, D.ty.injEq, D.tup.injEq, List.set_cons_zero, List.set_cons_succ, Nat.sub_self, Nat.reduceAdd, Nat.reduceSub, true_and, and_true, if_true, if_false, ite_true, ite_false, Bool.false_eq_true, reduceIte, Bool.not_true, Bool.not_false,
  int0_ii, intO_ii, addO_ii, addO_ss, addO_tt, addO_ll, mulDO_ii, mulDO_li, mulDO_ti, mulDO_si, ixO_t, ixO_l, ixO_f, ixO_s, ixO_r, negO_c, lenO_1, lenO1_s, lenO1_t, lenO1_l, lenO1_f, absO_i, allO_1, isiO_1, reprO_1, joinO_1, appendO_1, slO_t, slO_l, slO_f, slO_s, setO_ri, augAt_ri, topD_i, topD_s, topD_b, topD_n, topD_t, topD_l, topD_f, topD_d, okD_i, okD_b, okD_n, eqD_ii, tyD_n, tyD_b, tyD_i, tyD_s, tyD_t, tyD_l, tyD_f, tyD_d, eqO_ss, eqO_i, eqO_b, eqO_l, eqO_t, eqO_r, neO_ss, neO_i, neO_b, neO_l, neO_t, neO_r, eqG, neG, atI_0, atI_1, atI_2, atI_3, ixN_40, ixN_41, ixN_42, Int.reduceLE, Int.reduceLT, gset_same, gset_gset, decide_eq_true_eq])
theorem log_ten (n : Nat) (h : n ≤ 10 ^ 60) : n.log2 < 1920 := by
  by_cases h0 : n = 0
  · rw [h0]; decide
  · exact (Nat.log2_lt h0).mpr (Nat.lt_of_le_of_lt h (by decide +kernel))
theorem int_short {i : Int} (h : i.natAbs ≤ 10 ^ 60) : (PyData.shown (.int i)).length ≤ 100 := by
  have h1 : i.natAbs < 10 ^ 61 := Nat.lt_of_le_of_lt h (by decide +kernel)
  have e := int_text_length_le10 (k := 61) (by decide) h1
  unfold PyData.shown
  show (Str.ofString (toString i)).length ≤ 100
  rw [PySem.ofString_length]
  omega
theorem p1_show {d : D} (h : Plain1 d) : flatD d = true ∧ scalD d = true ∧ (pyR d).showable = true ∧ (pyR d).leavesShort 100 = true ∧ (pyR d).bulk ≤ 11 ∧ (pyR d).depth = 0 := by
  cases h with
  | non => exact ⟨rfl, rfl, rfl, rfl, Nat.zero_le _, rfl⟩
  | bl b => exact ⟨rfl, rfl, rfl, rfl, Nat.zero_le _, rfl⟩
  | int i h =>
    refine ⟨rfl, rfl, ?_, ?_, Nat.zero_le _, rfl⟩
    · show decide (i.natAbs.log2 < 1920) = true
      exact decide_eq_true (log_ten _ h)
    · show decide ((PyData.shown (.int i)).length ≤ 100) = true
      exact decide_eq_true (int_short h)
  | str z h o =>
    refine ⟨rfl, rfl, rfl, ?_, h, rfl⟩
    show (z.cps.toList.all fun c => decide (c < 16 ^ 8)) = true
    refine List.all_eq_true.mpr fun c hc => decide_eq_true ?_
    have := strOk_mem o c hc
    omega
theorem thing_show {d : D} (h : Thing d) : showD d = true ∧ (pyR d).showable = true ∧ (pyR d).shown.length ≤ sizeLine ∧ (pyR d).depth ≤ 60 := by
  have len : ∀ x : PyData, x.leavesShort 100 = true → x.bulk ≤ 20 → x.shown.length ≤ sizeLine := fun x h1 h2 => by
    have h3 := PyData.shown_le_bulk 100 (by decide) x h1
    rw [sizeLine_eq]
    omega
  cases h with
  | one p =>
    obtain ⟨a, b, c, e, f, g⟩ := p1_show p
    refine ⟨?_, c, len _ e (by omega), by omega⟩
    cases p <;> exact a
  | lst p =>
    rename_i x
    obtain ⟨a, b, c, e, f, g⟩ := p1_show p
    refine ⟨?_, ?_, len _ ?_ ?_, ?_⟩
    · show (flatD x && true) = true
      rw [a]; rfl
    · show ((pyR x).showable && true) = true
      rw [c]; rfl
    · show ((pyR x).leavesShort 100 && true) = true
      rw [e]; rfl
    · show (pyR x).bulk + 1 + 0 ≤ 20
      omega
    · show max (pyR x).depth 0 + 1 ≤ 60
      rw [g]; decide
  | tup p =>
    rename_i x
    obtain ⟨a, b, c, e, f, g⟩ := p1_show p
    refine ⟨?_, ?_, len _ ?_ ?_, ?_⟩
    · show (flatD x && true) = true
      rw [a]; rfl
    · show ((pyR x).showable && true) = true
      rw [c]; rfl
    · show ((pyR x).leavesShort 100 && true) = true
      rw [e]; rfl
    · show (pyR x).bulk + 1 + 0 ≤ 20
      omega
    · show max (pyR x).depth 0 + 1 ≤ 60
      rw [g]; decide
  | dic p =>
    rename_i x
    obtain ⟨a, b, c, e, f, g⟩ := p1_show p
    refine ⟨?_, ?_, len _ ?_ ?_, ?_⟩
    · show (scalD x && true) = true
      rw [b]; rfl
    · show (true && (pyR x).showable && true) = true
      rw [c]; rfl
    · show (PyData.leavesShort 100 (.str "a") && (pyR x).leavesShort 100 && true) = true
      rw [e]; rfl
    · show PyData.bulk (.str "a") + (pyR x).bulk + 2 + 0 ≤ 20
      have : PyData.bulk (.str "a") = 1 := rfl
      omega
    · show max (max (PyData.depth (.str "a")) (pyR x).depth) 0 + 1 ≤ 60
      rw [g]; decide
theorem thing_ask {d : D} (h : Thing d) : ∃ a, ∀ G, AskOk G d a := by
  cases h with
  | one p =>
    cases p with
    | non => exact ⟨_, fun G => ⟨rfl, fun z e => nomatch e⟩⟩
    | bl b => exact ⟨_, fun G => ⟨rfl, fun z e => nomatch e⟩⟩
    | int i _ => exact ⟨_, fun G => ⟨rfl, fun z e => nomatch e⟩⟩
    | str z h o => exact ⟨_, fun G => ⟨rfl, fun y e => by cases e; exact ⟨by rw [sizeLine_eq]; omega, o⟩⟩⟩
  | lst p => exact ⟨_, fun G => ⟨rfl, fun z e => nomatch e⟩⟩
  | tup p => exact ⟨_, fun G => ⟨rfl, fun z e => nomatch e⟩⟩
  | dic p => exact ⟨_, fun G => ⟨rfl, fun z e => nomatch e⟩⟩
theorem two_show (a b : Bool) : ShowOk (.lst [.bl a, .bl b]) := by
  cases a <;> cases b <;> exact ⟨by decide +kernel, by decide +kernel, by decide +kernel, by decide +kernel, by decide +kernel⟩
theorem fold_size (a : Array Nat) : ∀ (n : Nat) (acc : Array Nat), ((List.replicate n a).foldl (· ++ ·) acc).size = acc.size + n * a.size
  | 0, acc => by simp
  | n + 1, acc => by
    rw [List.replicate_succ, List.foldl_cons, fold_size a n (acc ++ a), Array.size_append, Nat.succ_mul]
    omega
theorem fold_all (p : Nat → Bool) (a : Array Nat) (ha : a.all p = true) : ∀ (n : Nat) (acc : Array Nat), acc.all p = true → ((List.replicate n a).foldl (· ++ ·) acc).all p = true
  | 0, acc, h => h
  | n + 1, acc, h => by
    rw [List.replicate_succ, List.foldl_cons]
    refine fold_all p a ha n (acc ++ a) ?_
    rw [Array.all_append, h, ha]
    rfl
theorem mul_gen (n : Nat) (hn : 2 ≤ n) : (Txt.mul "a" (n : Int)).length = n ∧ PyData.strOk (Txt.mul "a" (n : Int)) = true := by
  have e : Txt.mul "a" (n : Int) = ⟨(List.replicate n ("a" : Str).cps).foldl (· ++ ·) #[]⟩ := by
    unfold Txt.mul
    rw [if_neg (by omega), if_neg, Int.toNat_natCast]
    have h1 : ((n : Int) == 1) = false := beq_eq_false_iff_ne.mpr (by omega)
    rw [h1, Bool.false_or]
    decide
  rw [e]
  refine ⟨?_, ?_⟩
  · show ((List.replicate n ("a" : Str).cps).foldl (· ++ ·) #[]).size = n
    rw [fold_size]
    show 0 + n * 1 = n
    omega
  · exact fold_all _ _ (by decide +kernel) _ _ (by decide +kernel)
theorem mul_a : ∃ z, Txt.mul "a" 9000 = z ∧ z.length = 9000 ∧ PyData.strOk z = true := by
  have h := mul_gen 9000 (by decide)
  have e : (9000 : Int) = ((9000 : Nat) : Int) := rfl
  rw [e]
  exact ⟨_, rfl, h⟩
/-- neither a number nor a name -/
def Neither (d : D) : Prop := ∃ a, (∀ G, AskOk G d a) ∧ wholeB a = false ∧ nameB d = false
theorem n_lst (xs : List D) : Neither (.lst xs) := ⟨"list", fun _ => ⟨rfl, fun _ e => nomatch e⟩, by decide, rfl⟩
theorem n_tup (xs : List D) : Neither (.tup xs) := ⟨"tuple", fun _ => ⟨rfl, fun _ e => nomatch e⟩, by decide, rfl⟩
theorem n_dic (ks : List Key) (xs : List D) : Neither (.dic ks xs) := ⟨"dict", fun _ => ⟨rfl, fun _ e => nomatch e⟩, by decide, rfl⟩
theorem n_mul {z : Str} (h : z.length = 9000) (o : PyData.strOk z = true) : Neither (.str z) := ⟨"str", fun _ => ⟨rfl, fun y e => by cases e; exact ⟨by rw [h]; decide, o⟩⟩, by decide, by
  show (decide (1 ≤ z.length) && (decide (z.length ≤ 8) && _)) = false
  rw [h, decide_eq_false (show ¬ (9000 ≤ 8) by decide), Bool.false_and, Bool.and_false]⟩
theorem mul_can : MulOk "a" 9000 := by
  refine ⟨by decide, fun _ _ => by decide, fun _ _ => ?_⟩
  decide +kernel
theorem mem_range {n : Nat} {d : D} (h : d ∈ rangeD n) : ∃ i : Nat, d = .int i ∧ i < n := by
  obtain ⟨i, hi, e⟩ := List.mem_map.mp h
  exact ⟨i, e.symm, List.mem_range.mp hi⟩
theorem read_law (ds : List D) (G : GH) (Q : DK) (Ex : DX) (h : sp_law ds G Q Ex) : t_law (endsOf Q Ex) (startD ["_law_script", "_law_bag_here", "_law_turn", "_law_thing_here", "_law_shown", "_law_due", "_law_again", "_law_deep", "_law_k"] ds) G := by
  obtain ⟨ns, rfl, hn, gn, k⟩ := h
  unfold t_law
  walk_at "rd"
  refine ⟨ns, rfl, hn, fun p b np hb => ?_⟩
  simp only [wFor]
  walk_at "rd"
  refine wForL_inv (I := fun _ env G => ∃ b x2 x3 x4 x5 x6, env = [some (scriptD ns), some (.ref p), x2, x3, x4, x5, x6, none, none] ∧ G p = some (.lst b) ∧ BagOk b) ?_ ?_ _ _ _ ⟨b, _, _, _, _, _, rfl, gset_same, hb⟩
  · -- behind the turns
    rintro env G1 ⟨b, x2, x3, x4, x5, x6, rfl, g, hb⟩
    refine ⟨trivial, ?_⟩
    walk_at "rd"
    refine wForL_inv (I := fun r env G => ∃ x8 d, env = [some (scriptD ns), some (.ref p), x2, x3, x4, x5, x6, some d, x8] ∧ (r = rangeD 20 ∨ Neither d) ∧ ∀ e ∈ r, ∃ i : Nat, e = .int i) ?_ ?_ _ _ _ ⟨_, _, rfl, .inl rfl, fun e he => let ⟨i, h, _⟩ := mem_range he; ⟨i, h⟩⟩
    · rintro env G2 ⟨x8, d, rfl, hd, _⟩
      have hd : Neither d := hd.resolve_left (by intro e; have := congrArg List.length e; rw [rangeD_len] at this; cases this)
      refine ⟨trivial, ?_⟩
      walk_at "rd"
      obtain ⟨z, ez, zl, zo⟩ := mul_a
      rw [ez]
      refine ⟨by decide, by decide, by decide, by decide, by decide, by decide, List.cons_ne_nil _ _, by decide, mul_can, fun q nq => ⟨by decide, by decide, by decide, by decide, [.inr "a"], rfl, by decide, by decide, ?_⟩⟩
      refine wForL_inv (I := fun r env G => ∃ x3 x8, env = [some (scriptD ns), some (.ref p), x2, x3, x4, x5, x6, some d, x8] ∧ ∀ e ∈ r, Neither e) ?_ ?_ _ _ _ ⟨_, _, rfl, fun e he => ?_⟩
      · rintro env G3 _
        exact ⟨trivial, k G3⟩
      · rintro e r env G3 nx ⟨x3, x8, rfl, hr⟩ hnx
        obtain ⟨a, ha, h1, h2⟩ := hr e List.mem_cons_self
        refine ⟨trivial, ?_⟩
        walk_at "rd"
        refine ⟨e, a, rfl, ha _, ?_⟩
        rw [h1]
        walk_at "rd"
        refine ⟨e, a, rfl, ha _, ?_⟩
        rw [h2]
        walk_at "rd"
        exact hnx _ _ ⟨_, _, rfl, fun e he => hr e (List.mem_cons_of_mem _ he)⟩
      · simp only [List.mem_cons, List.not_mem_nil, or_false] at he
        rcases he with rfl | rfl | rfl | rfl | rfl
        · exact n_lst _
        · exact hd
        · exact n_tup _
        · exact n_mul zl zo
        · exact n_dic _ _
    · rintro d r env G2 nx ⟨x8, d7, rfl, hd, hr⟩ hnx
      obtain ⟨i, rfl⟩ := hr d List.mem_cons_self
      refine ⟨trivial, ?_⟩
      walk_at "rd"
      obtain ⟨e, he, ne⟩ := pick [.lst [d7], .tup [d7]] (P := Neither) (by
        intro e he
        simp only [List.mem_cons, List.not_mem_nil, or_false] at he
        rcases he with rfl | rfl
        · exact n_lst _
        · exact n_tup _) (y := (i : Int) % 2) (Int.emod_nonneg _ (by decide)) (by show _ < (2 : Int); omega)
      refine ⟨by decide, by decide, by decide, e, he, ?_⟩
      exact hnx _ _ ⟨_, _, rfl, .inr ne, fun e he => hr e (List.mem_cons_of_mem _ he)⟩
  · rintro d r env G1 nx ⟨b, x2, x3, x4, x5, x6, rfl, g, hb⟩ hnx
    refine ⟨trivial, ?_⟩
    walk_at "rd"
    refine ⟨p, b, rfl, g, hb, fun t b1 ht hb1 => ?_⟩
    simp only [wFor]
    walk_at "rd"
    obtain ⟨s1, s2, s3, s4⟩ := thing_show ht
    obtain ⟨a, ha⟩ := thing_ask ht
    refine ⟨s1, s2, s3, s4, t, a, rfl, ha _, t, a, rfl, ha _, by decide, _, _, ⟨rfl, rfl⟩, ?_⟩
    refine wForL_inv (I := fun _ env G => ∃ x6, env = [some (scriptD ns), some (.ref p), some d, some t, some (.str (pyR t).shown), some (.lst [.bl (wholeB a), .bl (nameB t)]), x6, none, none] ∧ G = gset G1 p (.lst b1)) ?_ ?_ _ _ _ ⟨_, rfl, rfl⟩
    · rintro env G3 ⟨y6, rfl, rfl⟩
      exact ⟨trivial, hnx _ _ ⟨b1, _, _, _, _, _, rfl, gset_same, hb1⟩⟩
    · rintro e r' env G3 nx' ⟨y6, rfl, rfl⟩ hnx'
      refine ⟨trivial, ?_⟩
      walk_at "rd"
      refine ⟨t, a, rfl, ha _, t, a, rfl, ha _, by decide, .lst [.bl (wholeB a), .bl (nameB t)], rfl, two_show _ _, ?_⟩
      walk_at "rd"
      refine ⟨s1, s2, s3, s4, ?_⟩
      rw [decide_true]
      walk_at "rd"
      exact hnx' _ _ ⟨_, rfl, rfl⟩
theorem len_is_integer {ds : List D} {G : GH} {Q : DK} {Ex : DX} (h : sp_is_integer ds G Q Ex) : ds.length = 1 := by
  obtain ⟨d, a, rfl, _⟩ := h
  rfl
theorem len_is_name {ds : List D} {G : GH} {Q : DK} {Ex : DX} (h : sp_is_name ds G Q Ex) : ds.length = 1 := by
  obtain ⟨d, a, rfl, _⟩ := h
  rfl
theorem len_law_whole {ds : List D} {G : GH} {Q : DK} {Ex : DX} (h : sp_law_whole ds G Q Ex) : ds.length = 1 := by
  obtain ⟨d, a, rfl, _⟩ := h
  rfl
theorem len_law_is_name {ds : List D} {G : GH} {Q : DK} {Ex : DX} (h : sp_law_is_name ds G Q Ex) : ds.length = 1 := by
  obtain ⟨d, a, rfl, _⟩ := h
  rfl
theorem len_law_bag {ds : List D} {G : GH} {Q : DK} {Ex : DX} (h : sp_law_bag ds G Q Ex) : ds.length = 1 := by
  obtain ⟨ns, rfl, _⟩ := h
  rfl
theorem len_law_take {ds : List D} {G : GH} {Q : DK} {Ex : DX} (h : sp_law_take ds G Q Ex) : ds.length = 2 := by
  obtain ⟨a, m, b, rfl, _⟩ := h
  rfl
theorem len_law_alike {ds : List D} {G : GH} {Q : DK} {Ex : DX} (h : sp_law_alike ds G Q Ex) : ds.length = 2 := by
  obtain ⟨d, rfl, _⟩ := h
  rfl
theorem len_law_text {ds : List D} {G : GH} {Q : DK} {Ex : DX} (h : sp_law_text ds G Q Ex) : ds.length = 1 := by
  obtain ⟨a, b, rfl, _⟩ := h
  rfl
theorem len_law_thing {ds : List D} {G : GH} {Q : DK} {Ex : DX} (h : sp_law_thing ds G Q Ex) : ds.length = 1 := by
  obtain ⟨a, b, rfl, _⟩ := h
  rfl
theorem len_law {ds : List D} {G : GH} {Q : DK} {Ex : DX} (h : sp_law ds G Q Ex) : ds.length = 1 := by
  obtain ⟨ns, rfl, _⟩ := h
  rfl
end K12
set_option Elab.async false
set_option linter.all false
set_option maxRecDepth 100000
set_option maxHeartbeats 4000000

namespace K12
open PySem PySem.Spec PyProof.Rows L2 DL
def d_is_integer : He.DefD := ⟨("is_integer", none), "is_integer", "is_integer", defArgs s_is_integer, defBody s_is_integer, defScope s_is_integer, [], []⟩
def d_is_name : He.DefD := ⟨("is_name", none), "is_name", "is_name", defArgs s_is_name, defBody s_is_name, defScope s_is_name, [], []⟩
def d_law_bag : He.DefD := ⟨("_law_bag", none), "_law_bag", "_law_bag", defArgs s_law_bag, defBody s_law_bag, defScope s_law_bag, [], []⟩
def d_law_take : He.DefD := ⟨("_law_take", none), "_law_take", "_law_take", defArgs s_law_take, defBody s_law_take, defScope s_law_take, [], []⟩
def d_law_alike : He.DefD := ⟨("_law_alike", none), "_law_alike", "_law_alike", defArgs s_law_alike, defBody s_law_alike, defScope s_law_alike, [], []⟩
def d_law_whole : He.DefD := ⟨("_law_whole", none), "_law_whole", "_law_whole", defArgs s_law_whole, defBody s_law_whole, defScope s_law_whole, [], []⟩
def d_law_is_name : He.DefD := ⟨("_law_is_name", none), "_law_is_name", "_law_is_name", defArgs s_law_is_name, defBody s_law_is_name, defScope s_law_is_name, [], []⟩
def d_law_text : He.DefD := ⟨("_law_text", none), "_law_text", "_law_text", defArgs s_law_text, defBody s_law_text, defScope s_law_text, [], []⟩
def d_law_thing : He.DefD := ⟨("_law_thing", none), "_law_thing", "_law_thing", defArgs s_law_thing, defBody s_law_thing, defScope s_law_thing, [], []⟩
def d_law : He.DefD := ⟨("law", none), "law", "law", defArgs s_law, defBody s_law, defScope s_law, [], []⟩
def fn : List He.DefD := [d_is_integer, d_is_name, d_law_bag, d_law_take, d_law_alike, d_law_whole, d_law_is_name, d_law_text, d_law_thing, d_law]
def fa : List He.Fa := [.glo "is_integer", .glo "is_name", .glo "_law_bag", .glo "_law_take", .glo "_law_alike", .glo "_law_whole", .glo "_law_is_name", .glo "_law_text", .glo "_law_thing", .glo "law", .free "abs", .free "all", .free "bool", .free "int", .free "isinstance", .free "len", .free "range", .free "repr", .free "str", .str "LETTERS" "abcdefghijklmnopqrstuvwxyz"]
abbrev R : PySem.W.OpenRow := PySem.W.OpenLaw.row PySem.Challenge.rw_firingrules_k12_integers_and_names
abbrev hk : PySem.W.Hook := He.hookD 4 fa fn
def ob (s : PySem.W.SharedT) : He.AlD := He.obsDG 4 fa fn (HandSHeadRun.getT s)
theorem ob_eq (s : PySem.W.SharedT) : ob s = hk.obs s.abs := He.obsDG_eq (HandSHeadRun.getT_eq s)
theorem run (w : World) : HandSHeadRun.RunEq R (PySem.W.view R.prog [12]) hk ob 2000 ["LETTERS", "is_integer", "is_name", "_law_bag", "_law_take", "_law_alike", "_law_whole", "_law_is_name", "_law_text", "_law_thing"] w := by
  intro os
  kernel_rfl
theorem facts {P : Program} {w : World} {T : Tb} {h : Heap} {mg : Str → Option Value} {f : Addr} (X : T.K.In h) (G : h.Ns mainGlobals mg) (hfa : mg ("law" : Str) = some (.ref f)) (c : He.SaysD fa fn T.K) :
    ∃ fd : FuncData, (∀ (s : Shared) (v : Value), BindsTo s fd ⟨[v], []⟩ [("_law_script", v)]) ∧ ∀ base : Heap, T.K.In base → base.Ns mainGlobals mg → FnG P w T.K mg base (L2.CX P w) 4 f fd ["_law_script"] (liftSp T spLaw) := by
  obtain ⟨fd_is_integer, F_is_integer⟩ := c.def_ 0 (d := d_is_integer) rfl
  obtain ⟨fd_is_name, F_is_name⟩ := c.def_ 1 (d := d_is_name) rfl
  obtain ⟨fd_law_bag, F_law_bag⟩ := c.def_ 2 (d := d_law_bag) rfl
  obtain ⟨fd_law_take, F_law_take⟩ := c.def_ 3 (d := d_law_take) rfl
  obtain ⟨fd_law_alike, F_law_alike⟩ := c.def_ 4 (d := d_law_alike) rfl
  obtain ⟨fd_law_whole, F_law_whole⟩ := c.def_ 5 (d := d_law_whole) rfl
  obtain ⟨fd_law_is_name, F_law_is_name⟩ := c.def_ 6 (d := d_law_is_name) rfl
  obtain ⟨fd_law_text, F_law_text⟩ := c.def_ 7 (d := d_law_text) rfl
  obtain ⟨fd_law_thing, F_law_thing⟩ := c.def_ 8 (d := d_law_thing) rfl
  obtain ⟨fd_law, F_law⟩ := c.def_ 9 (d := d_law) rfl
  have e := hfa.symm.trans (He.glo_ok X G (c.fact 9 (f := .glo "law") rfl))
  cases e
  have m : Bl mg := ⟨He.free_ok X G (c.fact 10 (f := .free "abs") rfl), He.free_ok X G (c.fact 11 (f := .free "all") rfl), He.free_ok X G (c.fact 12 (f := .free "bool") rfl), He.free_ok X G (c.fact 13 (f := .free "int") rfl), He.free_ok X G (c.fact 14 (f := .free "isinstance") rfl), He.free_ok X G (c.fact 15 (f := .free "len") rfl), He.free_ok X G (c.fact 16 (f := .free "range") rfl), He.free_ok X G (c.fact 17 (f := .free "repr") rfl), He.free_ok X G (c.fact 18 (f := .free "str") rfl), He.str_ok X G (c.fact 19 (f := .str "LETTERS" "abcdefghijklmnopqrstuvwxyz") rfl)⟩
  have b := FunD.bindsA (ps := ["_law_script"]) F_law fun _ _ _ _ _ _ us hl => match us, hl with | [_], _ => rfl
  refine ⟨fd_law, fun s v => b s [v] rfl, fun base _ _ => ?_⟩
  have G_is_integer : FnG P w T.K mg base (L2.CX P w) 1 _ fd_is_integer ["thing"] (liftSp T sp_is_integer) := okF F_is_integer sc_is_integer (fun ds G Q Ex h => len_is_integer h) (fun cdv A outer s H E hr => body_is_integer m  cdv A outer s H E hr) read_is_integer
  have c_is_integer : Cal T P w mg base "is_integer" 1 1 sp_is_integer := cal_of F_is_integer G_is_integer (He.glo_ok X G (c.fact 0 (f := .glo "is_integer") rfl)) (F_is_integer.bindsN fun _ _ _ _ _ _ us hl => match us, hl with | [_], _ => rfl)
  have G_is_name : FnG P w T.K mg base (L2.CX P w) 1 _ fd_is_name ["thing"] (liftSp T sp_is_name) := okF F_is_name sc_is_name (fun ds G Q Ex h => len_is_name h) (fun cdv A outer s H E hr => body_is_name m  cdv A outer s H E hr) read_is_name
  have c_is_name : Cal T P w mg base "is_name" 1 1 sp_is_name := cal_of F_is_name G_is_name (He.glo_ok X G (c.fact 1 (f := .glo "is_name") rfl)) (F_is_name.bindsN fun _ _ _ _ _ _ us hl => match us, hl with | [_], _ => rfl)
  have G_law_bag : FnG P w T.K mg base (L2.CX P w) 1 _ fd_law_bag ["_law_script"] (liftSp T sp_law_bag) := okF F_law_bag sc_law_bag (fun ds G Q Ex h => len_law_bag h) (fun cdv A outer s H E hr => body_law_bag m  cdv A outer s H E hr) read_law_bag
  have c__law_bag : Cal T P w mg base "_law_bag" 1 1 sp_law_bag := cal_of F_law_bag G_law_bag (He.glo_ok X G (c.fact 2 (f := .glo "_law_bag") rfl)) (F_law_bag.bindsN fun _ _ _ _ _ _ us hl => match us, hl with | [_], _ => rfl)
  have G_law_take : FnG P w T.K mg base (L2.CX P w) 1 _ fd_law_take ["_law_bag_here", "_law_many"] (liftSp T sp_law_take) := okF F_law_take sc_law_take (fun ds G Q Ex h => len_law_take h) (fun cdv A outer s H E hr => body_law_take m  cdv A outer s H E hr) read_law_take
  have c__law_take : Cal T P w mg base "_law_take" 1 2 sp_law_take := cal_of F_law_take G_law_take (He.glo_ok X G (c.fact 3 (f := .glo "_law_take") rfl)) (F_law_take.bindsN fun _ _ _ _ _ _ us hl => match us, hl with | [_, _], _ => rfl)
  have G_law_alike : FnG P w T.K mg base (L2.CX P w) 1 _ fd_law_alike ["_law_found", "_law_due"] (liftSp T sp_law_alike) := okF F_law_alike sc_law_alike (fun ds G Q Ex h => len_law_alike h) (fun cdv A outer s H E hr => body_law_alike m  cdv A outer s H E hr) read_law_alike
  have c__law_alike : Cal T P w mg base "_law_alike" 1 2 sp_law_alike := cal_of F_law_alike G_law_alike (He.glo_ok X G (c.fact 4 (f := .glo "_law_alike") rfl)) (F_law_alike.bindsN fun _ _ _ _ _ _ us hl => match us, hl with | [_, _], _ => rfl)
  have G_law_whole : FnG P w T.K mg base (L2.CX P w) 1 _ fd_law_whole ["_law_thing_here"] (liftSp T sp_law_whole) := okF F_law_whole sc_law_whole (fun ds G Q Ex h => len_law_whole h) (fun cdv A outer s H E hr => body_law_whole m  cdv A outer s H E hr) read_law_whole
  have c__law_whole : Cal T P w mg base "_law_whole" 1 1 sp_law_whole := cal_of F_law_whole G_law_whole (He.glo_ok X G (c.fact 5 (f := .glo "_law_whole") rfl)) (F_law_whole.bindsN fun _ _ _ _ _ _ us hl => match us, hl with | [_], _ => rfl)
  have G_law_is_name : FnG P w T.K mg base (L2.CX P w) 1 _ fd_law_is_name ["_law_thing_here"] (liftSp T sp_law_is_name) := okF F_law_is_name sc_law_is_name (fun ds G Q Ex h => len_law_is_name h) (fun cdv A outer s H E hr => body_law_is_name m  cdv A outer s H E hr) read_law_is_name
  have c__law_is_name : Cal T P w mg base "_law_is_name" 1 1 sp_law_is_name := cal_of F_law_is_name G_law_is_name (He.glo_ok X G (c.fact 6 (f := .glo "_law_is_name") rfl)) (F_law_is_name.bindsN fun _ _ _ _ _ _ us hl => match us, hl with | [_], _ => rfl)
  have G_law_text : FnG P w T.K mg base (L2.CX P w) 2 _ fd_law_text ["_law_bag_here"] (liftSp T sp_law_text) := okF F_law_text sc_law_text (fun ds G Q Ex h => len_law_text h) (fun cdv A outer s H E hr => body_law_text m c__law_take cdv A outer s H E hr) read_law_text
  have c__law_text : Cal T P w mg base "_law_text" 2 1 sp_law_text := cal_of F_law_text G_law_text (He.glo_ok X G (c.fact 7 (f := .glo "_law_text") rfl)) (F_law_text.bindsN fun _ _ _ _ _ _ us hl => match us, hl with | [_], _ => rfl)
  have G_law_thing : FnG P w T.K mg base (L2.CX P w) 3 _ fd_law_thing ["_law_bag_here"] (liftSp T sp_law_thing) := okF F_law_thing sc_law_thing (fun ds G Q Ex h => len_law_thing h) (fun cdv A outer s H E hr => body_law_thing m c__law_take c__law_text cdv A outer s H E hr) read_law_thing
  have c__law_thing : Cal T P w mg base "_law_thing" 3 1 sp_law_thing := cal_of F_law_thing G_law_thing (He.glo_ok X G (c.fact 8 (f := .glo "_law_thing") rfl)) (F_law_thing.bindsN fun _ _ _ _ _ _ us hl => match us, hl with | [_], _ => rfl)
  have G_law : FnG P w T.K mg base (L2.CX P w) 4 _ fd_law ["_law_script"] (liftSp T sp_law) := okF F_law sc_law (fun ds G Q Ex h => len_law h) (fun cdv A outer s H E hr => body_law m c__law_alike c__law_bag c__law_is_name c__law_thing c__law_whole c_is_integer c_is_name cdv A outer s H E hr) read_law
  exact G_law
end K12
open PySem PySem.W PySem.Calls PyProof.Rows
set_option maxHeartbeats 0 in
theorem PySem.Challenge.cw_firingrules_k12_integers_and_names_holds : PySem.Challenge.rw_firingrules_k12_integers_and_names.Holds := by
  w_on; o_law
  refine HandSHeadRun.head_any (r := OpenLaw.row PySem.Challenge.rw_firingrules_k12_integers_and_names) (q := view (OpenLaw.row PySem.Challenge.rw_firingrules_k12_integers_and_names).prog [12]) (H := K12.hk) (ob := K12.ob) (M := 2000) (loose := ["LETTERS", "is_integer", "is_name", "_law_bag", "_law_take", "_law_alike", "_law_whole", "_law_is_name", "_law_text", "_law_thing"]) (d := HandSHeadRun.topDef (OpenLaw.row PySem.Challenge.rw_firingrules_k12_integers_and_names).prog 12) (kwd := []) K12.ob_eq
    (by kernel_rfl) (fun s => by kernel_rfl) K12.run (by kernel_rfl) (by kernel_rfl) (by kernel_rfl) (by rfl) (by first | assumption | decide +kernel) (by decide +kernel) ⟨rfl, rfl, rfl, rfl, rfl, by decide +kernel⟩ ?hw ?hc
  case hw => w_witness2
  case hc =>
    refine DL.lawG_walkE (l := PySem.Challenge.rw_firingrules_k12_integers_and_names) (k := 4) (x := "_law_script") rfl (by kernel_rfl) ⟨⟨rfl, by decide, by decide⟩, DL.guards_caller⟩ ?F
    intro w mg fa h Y G hmg0
    obtain ⟨K, KX, c⟩ := Y
    have hmg : mg ("law" : PySem.Str) = some (.ref fa) := by
      have e : (HandSHeadRun.topDef (OpenLaw.row PySem.Challenge.rw_firingrules_k12_integers_and_names).prog 12).name = ("law" : PySem.Str) := by kernel_rfl
      rw [← e]
      exact hmg0
    obtain ⟨fd, hb, hF⟩ := K12.facts (P := (PySem.Challenge.rw_firingrules_k12_integers_and_names).prog) (w := w) (T := ⟨K, fun _ => 0, fun _ => []⟩) KX G hmg c
    exact ⟨⟨K, fun _ => 0, fun _ => []⟩, fd, KX, hb, hF⟩
