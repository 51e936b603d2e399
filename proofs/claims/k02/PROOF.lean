import PyProof.Rows.All
import Wide.All
import OpenK.AllK
import Wide.FinOn
import PyProof.ReprRoads
import HandS.ForMost
import HandS.Style
import HandS.IsInst
import HandS.TupAny
import HandS.TupMul
import HandS.Wide
import PyProof.StrWalks
import HandS.Conv
import HandS.SetTxt0
import HandS.SetFor
import HandS.More
import HandS.TupSets
import PySem.Challenge.RW_sinceclocks_k02_what_is_a_machine
set_option Elab.async false
set_option linter.all false
set_option Elab.async false
set_option linter.all false
set_option maxRecDepth 100000
set_option maxHeartbeats 2000000
namespace FD
open PySem PySem.Spec PyProof.Rows L2

/-- a dict's key as data -/
def kD : Key → PyData
  | .inl i => .int i
  | .inr x => .str x
mutual
/-- data that stands in the tracked heap -/
inductive Dd (H : Hp) : V → PyData → Prop
  | non : Dd H .non .none
  | bl (b : Bool) : Dd H (.bl b) (.bool b)
  | int (i : Int) : Dd H (.int i) (.int i)
  | str (x : Str) : Dd H (.str x) (.str x)
  | lst {a : Addr} {xs : List V} {ds : List PyData} : H a = some (.lst xs) → DdAll H xs ds → Dd H (.ref a) (.list ds)
  | tup {a : Addr} {xs : List V} {ds : List PyData} : H a = some (.tup xs) → DdAll H xs ds → Dd H (.ref a) (.tuple ds)
  | dct {a : Addr} {kvs : List (Key × V)} {ds : List (PyData × PyData)} : H a = some (.dK kvs) → DdKv H kvs ds → Dd H (.ref a) (.dict ds)
inductive DdAll (H : Hp) : List V → List PyData → Prop
  | nil : DdAll H [] []
  | cons {v : V} {vs : List V} {d : PyData} {ds : List PyData} : Dd H v d → DdAll H vs ds → DdAll H (v :: vs) (d :: ds)
inductive DdKv (H : Hp) : List (Key × V) → List (PyData × PyData) → Prop
  | nil : DdKv H [] []
  | cons {k : Key} {v : V} {vs : List (Key × V)} {d : PyData} {ds : List (PyData × PyData)} : Dd H v d → DdKv H vs ds → DdKv H ((k, v) :: vs) ((kD k, d) :: ds)
end
/-- a heap that knows more -/
def Ex (H H' : Hp) : Prop := ∀ a o, H a = some o → H' a = some o
theorem Ex.refl (H : Hp) : Ex H H := fun _ _ h => h
theorem Ex.trans {H H1 H2 : Hp} (a : Ex H H1) (b : Ex H1 H2) : Ex H H2 := fun x o h => b x o (a x o h)
theorem Ex.new {H : Hp} {p : Addr} {o : HO} (h : H p = none) : Ex H (upd H p o) := fun a u e => by
  rw [upd_ne (ne_of_none e h)]
  exact e
theorem Ex.fresh {H H' : Hp} {p : Addr} (e : Ex H H') (h : H' p = none) : H p = none := by
  cases h1 : H p with
  | none => rfl
  | some o => rw [e p o h1] at h; cases h

section
variable {H H' : Hp}
mutual
theorem Dd.mono (e : Ex H H') : ∀ (d : PyData) (v : V), Dd H v d → Dd H' v d
  | .none, _, h => by cases h; exact .non
  | .bool b, _, h => by cases h; exact .bl b
  | .int i, _, h => by cases h; exact .int i
  | .str x, _, h => by cases h; exact .str x
  | .list ds, _, h => by
    cases h with
    | lst h1 h2 => exact .lst (e _ _ h1) (DdAll.mono e ds _ h2)
  | .tuple ds, _, h => by
    cases h with
    | tup h1 h2 => exact .tup (e _ _ h1) (DdAll.mono e ds _ h2)
  | .dict ds, _, h => by
    cases h with
    | dct h1 h2 => exact .dct (e _ _ h1) (DdKv.mono e ds _ h2)
theorem DdAll.mono (e : Ex H H') : ∀ (ds : List PyData) (vs : List V), DdAll H vs ds → DdAll H' vs ds
  | [], _, h => by cases h; exact .nil
  | d :: ds, _, h => by
    cases h with
    | cons h1 h2 => exact .cons (Dd.mono e d _ h1) (DdAll.mono e ds _ h2)
theorem DdKv.mono (e : Ex H H') : ∀ (ds : List (PyData × PyData)) (vs : List (Key × V)), DdKv H vs ds → DdKv H' vs ds
  | [], _, h => by cases h; exact .nil
  | (k, d) :: ds, _, h => by
    cases h with
    | cons h1 h2 => exact .cons (Dd.mono e d _ h1) (DdKv.mono e ds _ h2)
end
theorem Dd.ex {v : V} {d : PyData} (h : Dd H v d) (e : Ex H H') : Dd H' v d := Dd.mono e d v h
theorem DdAll.ex {vs : List V} {ds : List PyData} (h : DdAll H vs ds) (e : Ex H H') : DdAll H' vs ds := DdAll.mono e ds vs h
theorem DdKv.ex {vs : List (Key × V)} {ds : List (PyData × PyData)} (h : DdKv H vs ds) (e : Ex H H') : DdKv H' vs ds := DdKv.mono e ds vs h
theorem DdAll.length : ∀ {vs : List V} {ds : List PyData}, DdAll H vs ds → vs.length = ds.length
  | _, _, .nil => rfl
  | _, _, .cons _ t => by simp [DdAll.length t]
theorem DdAll.get : ∀ {vs : List V} {ds : List PyData} {i : Nat} {d : PyData}, DdAll H vs ds → ds[i]? = some d → ∃ v, vs[i]? = some v ∧ Dd H v d
  | _, _, _, _, .nil, e => by simp at e
  | _, _, 0, _, .cons r _, e => by simp at e; subst e; exact ⟨_, rfl, r⟩
  | _, _, i + 1, d, .cons _ t, e => by
    obtain ⟨u, h1, h2⟩ := DdAll.get (i := i) (d := d) t (by simpa using e)
    exact ⟨u, by simpa using h1, h2⟩
theorem DdAll.append : ∀ {vs ws : List V} {ds es : List PyData}, DdAll H vs ds → DdAll H ws es → DdAll H (vs ++ ws) (ds ++ es)
  | _, _, _, _, .nil, h => h
  | _, _, _, _, .cons r t, h => .cons r (DdAll.append t h)
theorem DdAll.take : ∀ {vs : List V} {ds : List PyData} (n : Nat), DdAll H vs ds → DdAll H (vs.take n) (ds.take n)
  | _, _, 0, _ => .nil
  | _, _, _ + 1, .nil => .nil
  | _, _, n + 1, .cons r t => .cons r (DdAll.take n t)
theorem DdAll.drop : ∀ {vs : List V} {ds : List PyData} (n : Nat), DdAll H vs ds → DdAll H (vs.drop n) (ds.drop n)
  | _, _, 0, h => h
  | _, _, _ + 1, .nil => .nil
  | _, _, n + 1, .cons _ t => DdAll.drop n t
theorem DdAll.reverse {vs : List V} {ds : List PyData} (h : DdAll H vs ds) : DdAll H vs.reverse ds.reverse := by
  induction vs generalizing ds with
  | nil => cases h; exact .nil
  | cons v vs ih =>
    cases h with
    | cons h1 h2 =>
      rw [List.reverse_cons, List.reverse_cons]
      exact (ih h2).append (.cons h1 .nil)
theorem DdAll.rep {vs : List V} {ds : List PyData} (h : DdAll H vs ds) : ∀ k, DdAll H (List.replicate k vs).flatten (List.replicate k ds).flatten
  | 0 => .nil
  | k + 1 => by
    rw [List.replicate_succ, List.replicate_succ, List.flatten_cons, List.flatten_cons]
    exact h.append (DdAll.rep h k)
mutual
def noDict : PyData → Bool
  | .dict _ => false
  | .list ds => noDictAll ds
  | .tuple ds => noDictAll ds
  | _ => true
def noDictAll : List PyData → Bool
  | [] => true
  | d :: ds => noDict d && noDictAll ds
end
mutual
theorem Dd.dp {K : PySem.W.Frag} : ∀ (d : PyData) (v : V), noDict d = true → Dd H v d → Dp K H v d
  | .none, _, _, h => by cases h; exact .non
  | .bool b, _, _, h => by cases h; exact .bl b
  | .int i, _, _, h => by cases h; exact .int i
  | .str x, _, _, h => by cases h; exact .str x
  | .list ds, _, n, h => by
    cases h with
    | lst h1 h2 => exact .lst (SqL.of h1) (DdAll.dp ds _ (by simpa [noDict] using n) h2)
  | .tuple ds, _, n, h => by
    cases h with
    | tup h1 h2 => exact .tup (SqT.of h1) (DdAll.dp ds _ (by simpa [noDict] using n) h2)
  | .dict ds, _, n, h => by simp [noDict] at n
theorem DdAll.dp {K : PySem.W.Frag} : ∀ (ds : List PyData) (vs : List V), noDictAll ds = true → DdAll H vs ds → DpAll K H vs ds
  | [], _, _, h => by cases h; exact .nil
  | d :: ds, _, n, h => by
    cases h with
    | cons h1 h2 =>
      have n' : noDict d = true ∧ noDictAll ds = true := by simpa [noDictAll] using n
      exact .cons (Dd.dp d _ n'.1 h1) (DdAll.dp ds _ n'.2 h2)
end
end

/-! ### slots -/
/-- what a slot holds: data; a list of one's own (that may change); a dict of one's own; the pile (three ints, that change) -/
inductive Sl where
  | dat (d : PyData)
  | own (p : Addr) (ds : List PyData)
  | odc (p : Addr) (ds : List (PyData × PyData))
  | pile (p : Addr)
  | script (p : Addr) (ns : List Int)
abbrev En := List (Option Sl)
def PileAt (H : Hp) (p : Addr) : Prop := ∃ a b c : Int, H p = some (.lst [.int a, .int b, .int c])
/-- where a def was entered: what was known then, what was frozen of it, which objects it may change -/
structure Bs where
  H : Hp
  G : Hp
  mu : Addr → Prop
def SlOk (K : PySem.W.Frag) (G H : Hp) : V → Sl → Prop
  | v, .dat d => Dd G v d
  | v, .own p ds => v = .ref p ∧ G p = none ∧ ∃ xs, H p = some (.lst xs) ∧ DdAll G xs ds
  | v, .odc p ds => v = .ref p ∧ G p = none ∧ ∃ xs, H p = some (.dK xs) ∧ DdKv G xs ds
  | v, .pile p => v = .ref p ∧ G p = none ∧ PileAt H p
  | v, .script p ns => v = .ref p ∧ SqL K G p (ns.map V.int)
def Sl.ad : Sl → Option Addr
  | .dat _ => none
  | .own p _ => some p
  | .odc p _ => some p
  | .pile p => some p
  | .script _ _ => none
/-- a thing that this call made and may yet change -/
def Sl.fz : Sl → Bool
  | .own _ _ => true
  | .odc _ _ => true
  | _ => false
structure EnvOk (K : PySem.W.Frag) (B : Bs) (G H : Hp) (σ : L2.St) (env : En) : Prop where
  exH : Ex G H
  exG : Ex B.G G
  keep : ∀ (q : Addr) (o : HO), B.H q = some o → ¬ B.mu q → H q = some o
  nog : ∀ (q : Addr) (o : HO), B.H q = some o → B.G q = none → G q = none
  there : ∀ (q : Addr) (o : HO), B.H q = some o → ∃ u, H q = some u
  mus : ∀ q : Addr, B.mu q → ∃ o, B.H q = some o
  len : σ.length = env.length
  sl : ∀ (i : Nat) (s : Sl), env[i]? = some (some s) → ∃ v, σ[i]? = some (some v) ∧ SlOk K G H v s
  mine : ∀ (i : Nat) (s : Sl) (p : Addr), env[i]? = some (some s) → s.ad = some p → B.H p = none ∨ (B.mu p ∧ s.fz = false)
  inj : ∀ (i j : Nat) (s t : Sl) (p : Addr), env[i]? = some (some s) → env[j]? = some (some t) → s.ad = some p → t.ad = some p → i = j
/-- the state goes on: frozen things stay, changing ones are told by the environments -/
theorem SqL.ex {K : PySem.W.Frag} {H H' : Hp} {a : Addr} {xs : List V} (h : SqL K H a xs) (e : Ex H H') : SqL K H' a xs := by
  rcases h with (h | ⟨o, h⟩) | h
  · exact .inl (.inl (e _ _ h))
  · exact .inl (.inr ⟨o, e _ _ h⟩)
  · exact .inr h
theorem SlOk.ex {K : PySem.W.Frag} {G H G' H' : Hp} {v : V} {s : Sl} (h : SlOk K G H v s) (e : Ex G G') (n : ∀ p, s.ad = some p → G' p = none) (k : ∀ p o, s.ad = some p → H p = some o → H' p = some o) : SlOk K G' H' v s := by
  cases s with
  | dat d => exact Dd.ex h e
  | own p ds => obtain ⟨h1, h2, xs, h3, h4⟩ := h; exact ⟨h1, n p rfl, xs, k p _ rfl h3, h4.ex e⟩
  | odc p ds => obtain ⟨h1, h2, xs, h3, h4⟩ := h; exact ⟨h1, n p rfl, xs, k p _ rfl h3, h4.ex e⟩
  | pile p => obtain ⟨h1, h2, a, b, c, h3⟩ := h; exact ⟨h1, n p rfl, a, b, c, k p _ rfl h3⟩
  | script p ns => obtain ⟨h1, h2⟩ := h; exact ⟨h1, SqL.ex h2 e⟩
theorem SlOk.has {K : PySem.W.Frag} {G H : Hp} {v : V} {s : Sl} {p : Addr} (h : SlOk K G H v s) (e : s.ad = some p) : v = .ref p ∧ G p = none ∧ ∃ o, H p = some o := by
  cases s with
  | dat d => cases e
  | own q ds => cases e; obtain ⟨h1, h2, xs, h3, h4⟩ := h; exact ⟨h1, h2, _, h3⟩
  | odc q ds => cases e; obtain ⟨h1, h2, xs, h3, h4⟩ := h; exact ⟨h1, h2, _, h3⟩
  | pile q => cases e; obtain ⟨h1, h2, a, b, c, h3⟩ := h; exact ⟨h1, h2, _, h3⟩
  | script q ns => cases e
/-- a new object, frozen at once -/
theorem EnvOk.new {K : PySem.W.Frag} {B : Bs} {G H : Hp} {σ : L2.St} {env : En} (h : EnvOk K B G H σ env) {p : Addr} {o : HO} (n : H p = none) : EnvOk K B (upd G p o) (upd H p o) σ env := by
  have nG : G p = none := h.exH.fresh n
  refine ⟨fun a u e => ?_, h.exG.trans (Ex.new nG), fun q u hq hm => ?_, fun q u hq hg => ?_, fun q u hq => ?_, h.mus, h.len, fun i s e => ?_, h.mine, h.inj⟩
  · by_cases z : a = p
    · subst z; rw [upd_same] at e ⊢; exact e
    · rw [upd_ne z] at e ⊢; exact h.exH a u e
  · have := h.keep q u hq hm
    rw [upd_ne (ne_of_none this n)]; exact this
  · obtain ⟨u', hu⟩ := h.there q u hq
    rw [upd_ne (ne_of_none hu n)]; exact h.nog q u hq hg
  · obtain ⟨u', hu⟩ := h.there q u hq
    exact ⟨u', by rw [upd_ne (ne_of_none hu n)]; exact hu⟩
  · obtain ⟨v, h1, h2⟩ := h.sl i s e
    refine ⟨v, h1, h2.ex (Ex.new nG) (fun q hq => ?_) (fun q u hq hu => ?_)⟩
    · obtain ⟨_, g, o', ho⟩ := h2.has hq
      rw [upd_ne (ne_of_none ho n)]; exact g
    · rw [upd_ne (ne_of_none hu n)]; exact hu
/-- a slot gets data (or is emptied) -/
theorem EnvOk.setD {K : PySem.W.Frag} {B : Bs} {G H : Hp} {σ : L2.St} {env : En} (h : EnvOk K B G H σ env) {i : Nat} {v : V} {d : PyData} (hd : Dd G v d) : EnvOk K B G H (σ.set i (some v)) (env.set i (some (.dat d))) := by
  refine ⟨h.exH, h.exG, h.keep, h.nog, h.there, h.mus, by simp [h.len], fun j s e => ?_, fun j s p e ea => ?_, fun j k s t p e1 e2 a1 a2 => ?_⟩
  · by_cases z : i = j
    · subst z
      have hl : i < env.length := by
        by_cases q : i < env.length
        · exact q
        · rw [List.set_eq_of_length_le (by omega)] at e
          rw [List.getElem?_eq_none (by omega)] at e; cases e
      rw [List.getElem?_set_self hl] at e
      cases e
      exact ⟨v, by rw [List.getElem?_set_self (by rw [h.len]; exact hl)], hd⟩
    · rw [List.getElem?_set_ne z] at e
      obtain ⟨u, h1, h2⟩ := h.sl j s e
      exact ⟨u, by rw [List.getElem?_set_ne z]; exact h1, h2⟩
  · by_cases z : i = j
    · subst z
      by_cases q : i < env.length
      · rw [List.getElem?_set_self q] at e; cases e; cases ea
      · rw [List.set_eq_of_length_le (by omega)] at e; exact h.mine _ _ _ e ea
    · rw [List.getElem?_set_ne z] at e; exact h.mine _ _ _ e ea
  · have g : ∀ {j : Nat} {s : Sl}, (env.set i (some (.dat d)))[j]? = some (some s) → s.ad = some p → env[j]? = some (some s) := fun {j s} e a => by
      by_cases z : i = j
      · subst z
        by_cases q : i < env.length
        · rw [List.getElem?_set_self q] at e; cases e; cases a
        · rw [List.set_eq_of_length_le (by omega)] at e; exact e
      · rw [List.getElem?_set_ne z] at e; exact e
    exact h.inj _ _ _ _ _ (g e1 a1) (g e2 a2) a1 a2
/-- a slot gets a thing of one's own that is new to all -/
theorem EnvOk.setO {K : PySem.W.Frag} {B : Bs} {G H : Hp} {σ : L2.St} {env : En} (h : EnvOk K B G H σ env) {i : Nat} {p : Addr} {s : Sl} (hs : SlOk K G H (.ref p) s) (ha : s.ad = some p) (hB : B.H p = none)
    (hn : ∀ (j : Nat) (t : Sl), env[j]? = some (some t) → t.ad ≠ some p) : EnvOk K B G H (σ.set i (some (.ref p))) (env.set i (some s)) := by
  have g : ∀ {j : Nat} {t : Sl}, (env.set i (some s))[j]? = some (some t) → (i = j ∧ t = s) ∨ (i ≠ j ∧ env[j]? = some (some t)) := fun {j t} e => by
    by_cases z : i = j
    · subst z
      by_cases q : i < env.length
      · rw [List.getElem?_set_self q] at e; cases e; exact .inl ⟨rfl, rfl⟩
      · rw [List.set_eq_of_length_le (by omega)] at e
        rw [List.getElem?_eq_none (by omega)] at e; cases e
    · rw [List.getElem?_set_ne z] at e; exact .inr ⟨z, e⟩
  refine ⟨h.exH, h.exG, h.keep, h.nog, h.there, h.mus, by simp [h.len], fun j t e => ?_, fun j t q e ea => ?_, fun j k t u q e1 e2 a1 a2 => ?_⟩
  · rcases g e with ⟨rfl, rfl⟩ | ⟨z, e'⟩
    · refine ⟨.ref p, ?_, hs⟩
      have hl : i < env.length := by
        by_cases q : i < env.length
        · exact q
        · rw [List.set_eq_of_length_le (by omega)] at e
          rw [List.getElem?_eq_none (by omega)] at e; cases e
      rw [List.getElem?_set_self (by rw [h.len]; exact hl)]
    · obtain ⟨u, h1, h2⟩ := h.sl j t e'
      exact ⟨u, by rw [List.getElem?_set_ne z]; exact h1, h2⟩
  · rcases g e with ⟨rfl, rfl⟩ | ⟨z, e'⟩
    · rw [ha] at ea; cases ea; exact .inl hB
    · exact h.mine _ _ _ e' ea
  · rcases g e1 with ⟨z1, rfl⟩ | ⟨z1, e1'⟩ <;> rcases g e2 with ⟨z2, rfl⟩ | ⟨z2, e2'⟩
    · rw [← z1, ← z2]
    · rw [ha] at a1; cases a1; exact absurd a2 (hn _ _ e2')
    · rw [ha] at a2; cases a2; exact absurd a1 (hn _ _ e1')
    · exact h.inj _ _ _ _ _ e1' e2' a1 a2
/-- a slot is emptied -/
theorem EnvOk.setN {K : PySem.W.Frag} {B : Bs} {G H : Hp} {σ : L2.St} {env : En} (h : EnvOk K B G H σ env) (i : Nat) : EnvOk K B G H (σ.set i none) (env.set i none) := by
  have g : ∀ {j : Nat} {t : Sl}, (env.set i none)[j]? = some (some t) → i ≠ j ∧ env[j]? = some (some t) := fun {j t} e => by
    by_cases z : i = j
    · subst z
      by_cases q : i < env.length
      · rw [List.getElem?_set_self q] at e; cases e
      · rw [List.set_eq_of_length_le (by omega)] at e
        rw [List.getElem?_eq_none (by omega)] at e; cases e
    · rw [List.getElem?_set_ne z] at e; exact ⟨z, e⟩
  refine ⟨h.exH, h.exG, h.keep, h.nog, h.there, h.mus, by simp [h.len], fun j t e => ?_, fun j t q e ea => h.mine _ _ _ (g e).2 ea, fun j k t u q e1 e2 a1 a2 => h.inj _ _ _ _ _ (g e1).2 (g e2).2 a1 a2⟩
  obtain ⟨z, e'⟩ := g e
  obtain ⟨u, h1, h2⟩ := h.sl j t e'
  exact ⟨u, by rw [List.getElem?_set_ne z]; exact h1, h2⟩
/-- a changing thing in slot i changes -/
theorem EnvOk.put {K : PySem.W.Frag} {B : Bs} {G H : Hp} {σ : L2.St} {env : En} (h : EnvOk K B G H σ env) {i : Nat} {p : Addr} {s s' : Sl} {o : HO} (hi : env[i]? = some (some s)) (ha : s.ad = some p) (ha' : s'.ad = some p) (hz : s'.fz = s.fz)
    (hs : SlOk K G (upd H p o) (.ref p) s') : EnvOk K B G (upd H p o) σ (env.set i (some s')) := by
  have hl : i < env.length := by
    by_cases q : i < env.length
    · exact q
    · rw [List.getElem?_eq_none (by omega)] at hi; cases hi
  obtain ⟨v0, hv0, hso⟩ := h.sl i s hi
  obtain ⟨rfl, gp, o0, ho0⟩ := hso.has ha
  have g : ∀ {j : Nat} {t : Sl}, (env.set i (some s'))[j]? = some (some t) → (i = j ∧ t = s') ∨ (i ≠ j ∧ env[j]? = some (some t)) := fun {j t} e => by
    by_cases z : i = j
    · subst z; rw [List.getElem?_set_self hl] at e; cases e; exact .inl ⟨rfl, rfl⟩
    · rw [List.getElem?_set_ne z] at e; exact .inr ⟨z, e⟩
  refine ⟨fun a u e => ?_, h.exG, fun q u hq hm => ?_, h.nog, fun q u hq => ?_, h.mus, by simp [h.len], fun j t e => ?_, fun j t q e ea => ?_, fun j k t u q e1 e2 a1 a2 => ?_⟩
  · rw [upd_ne (fun z => by rw [z, gp] at e; cases e)]; exact h.exH a u e
  · have z : q ≠ p := fun z => by
      subst z
      rcases h.mine i s q hi ha with m | m
      · rw [m] at hq; cases hq
      · exact hm m.1
    rw [upd_ne z]; exact h.keep q u hq hm
  · by_cases z : q = p
    · subst z; exact ⟨o, upd_same⟩
    · rw [upd_ne z]; exact h.there q u hq
  · rcases g e with ⟨rfl, rfl⟩ | ⟨z, e'⟩
    · exact ⟨.ref p, hv0, hs⟩
    · obtain ⟨u, h1, h2⟩ := h.sl j t e'
      refine ⟨u, h1, h2.ex (Ex.refl G) (fun q hq => (h2.has hq).2.1) (fun q w hq hw => ?_)⟩
      have nq : q ≠ p := fun z2 => by subst z2; exact z (h.inj _ _ _ _ _ hi e' ha hq)
      rw [upd_ne nq]; exact hw
  · rcases g e with ⟨rfl, rfl⟩ | ⟨z, e'⟩
    · rw [ha'] at ea; cases ea; rw [hz]; exact h.mine i s p hi ha
    · exact h.mine _ _ _ e' ea
  · rcases g e1 with ⟨z1, rfl⟩ | ⟨z1, e1'⟩ <;> rcases g e2 with ⟨z2, rfl⟩ | ⟨z2, e2'⟩
    · rw [← z1, ← z2]
    · rw [ha'] at a1; cases a1; exact h.inj _ _ _ _ _ (z1 ▸ hi) e2' ha a2
    · rw [ha'] at a2; cases a2; exact h.inj _ _ _ _ _ e1' (z2 ▸ hi) a1 ha
    · exact h.inj _ _ _ _ _ e1' e2' a1 a2
/-- a slot is no longer told of -/
theorem EnvOk.forget {K : PySem.W.Frag} {B : Bs} {G H : Hp} {σ : L2.St} {env : En} (h : EnvOk K B G H σ env) (i : Nat) : EnvOk K B G H σ (env.set i none) := by
  have g : ∀ {j : Nat} {t : Sl}, (env.set i none)[j]? = some (some t) → env[j]? = some (some t) := fun {j t} e => by
    by_cases z : i = j
    · subst z
      by_cases q : i < env.length
      · rw [List.getElem?_set_self q] at e; cases e
      · rw [List.set_eq_of_length_le (by omega)] at e; exact e
    · rw [List.getElem?_set_ne z] at e; exact e
  exact ⟨h.exH, h.exG, h.keep, h.nog, h.there, h.mus, by simp [h.len], fun j t e => h.sl j t (g e), fun j t q e ea => h.mine _ _ _ (g e) ea, fun j k t u q e1 e2 a1 a2 => h.inj _ _ _ _ _ (g e1) (g e2) a1 a2⟩
theorem set_same {α : Type} {l : List α} {i : Nat} {v : α} (h : l[i]? = some v) : l.set i v = l := by
  apply List.ext_getElem?
  intro j
  by_cases z : i = j
  · subst z
    rw [List.getElem?_set_self (List.getElem?_eq_some_iff.mp h).1, h]
  · rw [List.getElem?_set_ne z]
/-- a slot holds data, so it is told -/
theorem EnvOk.tell {K : PySem.W.Frag} {B : Bs} {G H : Hp} {σ : L2.St} {env : En} (h : EnvOk K B G H σ env) {i : Nat} {v : V} {d : PyData} (hv : σ[i]? = some (some v)) (hd : Dd G v d) : EnvOk K B G H σ (env.set i (some (.dat d))) := by
  have := h.setD (i := i) hd
  rw [set_same hv] at this
  exact this
end FD

set_option Elab.async false
set_option linter.all false
set_option maxRecDepth 100000
set_option maxHeartbeats 2000000
namespace FD
open PySem PySem.Spec PyProof.Rows L2

/-! ### what comes of an expression, a test, arguments, a part, a thing to walk, a statement -/
section
variable (K : PySem.W.Frag)
def EvE (te : TE) (env : En) (P : En → PyData → Prop) : Prop :=
  ∀ (B : Bs) (σ : L2.St) (G H : Hp) (Q : VK), EnvOk K B G H σ env →
    (∀ v G' H' env' d, P env' d → Ex G G' → EnvOk K B G' H' σ env' → Dd G' v d → Q v H') → te σ H Q
def EvB (tt : TT) (env : En) (P : En → Bool → Prop) : Prop :=
  ∀ (B : Bs) (σ : L2.St) (G H : Hp) (Q : Bool → Hp → Prop), EnvOk K B G H σ env →
    (∀ b G' H' env', P env' b → Ex G G' → EnvOk K B G' H' σ env' → Q b H') → tt σ H Q
def EvAs (ta : TA) (env : En) (P : En → List PyData → Prop) : Prop :=
  ∀ (B : Bs) (σ : L2.St) (G H : Hp) (Q : List V → Hp → Prop), EnvOk K B G H σ env →
    (∀ vs G' H' env' ds, P env' ds → Ex G G' → EnvOk K B G' H' σ env' → DdAll G' vs ds → Q vs H') → ta σ H Q
def EvO (to : TO) (env : En) (P : En → Option Int → Prop) : Prop :=
  ∀ (B : Bs) (σ : L2.St) (G H : Hp) (Q : Option Int → Hp → Prop), EnvOk K B G H σ env →
    (∀ o G' H' env', P env' o → Ex G G' → EnvOk K B G' H' σ env' → Q o H') → to σ H Q
/-- the iterator walks these data -/
def JOk (J : It) (G : Hp) (xs : List PyData) : Prop := ∀ G1 H1, Ex G G1 → Ex G1 H1 →
  (∀ (i : Nat) d, xs[i]? = some d → J.go i H1 ∧ ∀ x H2, J.yld i H1 x H2 → H2 = H1 ∧ Dd G1 x d) ∧ J.stop xs.length H1
def EvI (wi : TI) (env : En) (P : En → List PyData → Prop) : Prop :=
  ∀ (B : Bs) (σ : L2.St) (G H : Hp) (R : It → Hp → Prop), EnvOk K B G H σ env →
    (∀ J G' H' env' xs, P env' xs → Ex G G' → EnvOk K B G' H' σ env' → JOk J G' xs → R J H') → wi σ H R
structure Outs where
  nx : En → Prop
  rt : En → PyData → Prop := fun _ _ => False
  bk : En → Prop := fun _ => False
  ct : En → Prop := fun _ => False
  rn : En → Prop := fun _ => False
def EvS (t : TS) (env : En) (O : Outs) : Prop :=
  ∀ (B : Bs) (σ : L2.St) (G H : Hp) (D : Ends), EnvOk K B G H σ env →
    (∀ σ' G' H' env', O.nx env' → Ex G G' → EnvOk K B G' H' σ' env' → D.nx σ' H') →
    (∀ v G' H' σ' env' d, O.rt env' d → Ex G G' → EnvOk K B G' H' σ' env' → Dd G' v d → D.rt v H') →
    (∀ σ' G' H' env', O.bk env' → Ex G G' → EnvOk K B G' H' σ' env' → D.bk σ' H') →
    (∀ σ' G' H' env', O.ct env' → Ex G G' → EnvOk K B G' H' σ' env' → D.ct σ' H') →
    (∀ p σ' G' H' env', O.rn env' → Ex G G' → EnvOk K B G' H' σ' env' → G' p = none → PileAt H' p → B.H p = none → D.rt (.ref p) H') → t D σ H
/-- a target takes d -/
def EvG (g : TG) (d : PyData) (env : En) (P : En → Prop) : Prop :=
  ∀ (B : Bs) (σ : L2.St) (G H : Hp) (v : V) (Q : L2.St → Hp → Prop), EnvOk K B G H σ env → Dd G v d →
    (∀ σ' env', P env' → EnvOk K B G H σ' env' → Q σ' H) → g v σ H Q
/-- a two-place operation on data -/
def RD (r : R2) (env : En) (d e : PyData) (P : PyData → Prop) : Prop :=
  ∀ (B : Bs) (σ : L2.St) (G H : Hp) (x y : V) (Q : VK), EnvOk K B G H σ env → Dd G x d → Dd G y e →
    (∀ v G' H' f, P f → Ex G G' → EnvOk K B G' H' σ env → Dd G' v f → Q v H') → r x y H Q
/-- a built-in's call on data -/
def RC (r : List V → Hp → VK → Prop) (env : En) (ds : List PyData) (P : PyData → Prop) : Prop :=
  ∀ (B : Bs) (σ : L2.St) (G H : Hp) (xs : List V) (Q : VK), EnvOk K B G H σ env → DdAll G xs ds →
    (∀ v G' H' f, P f → Ex G G' → EnvOk K B G' H' σ env → Dd G' v f → Q v H') → r xs H Q
def RS (r : V → Option Int → Option Int → Hp → VK → Prop) (env : En) (d : PyData) (lo hi : Option Int) (P : PyData → Prop) : Prop :=
  ∀ (B : Bs) (σ : L2.St) (G H : Hp) (x : V) (Q : VK), EnvOk K B G H σ env → Dd G x d →
    (∀ v G' H' f, P f → Ex G G' → EnvOk K B G' H' σ env → Dd G' v f → Q v H') → r x lo hi H Q
end

section
variable {K : PySem.W.Frag} {env : En} {ta tb tc te : TE} {t u : TS} {P : En → PyData → Prop} {O : Outs}

/-! ### expressions -/
theorem EvE.imp {P' : En → PyData → Prop} (h : EvE K te env P) (w : ∀ e d, P e d → P' e d) : EvE K te env P' :=
  fun B σ G H Q I q => h B σ G H Q I fun v G' H' e d p x y z => q v G' H' e d (w _ _ p) x y z
theorem ev_var {i : Nat} {d : PyData} (h : env[i]? = some (some (.dat d))) (p : P env d) : EvE K (tVar i) env P := fun B σ G H Q I q => by
  obtain ⟨v, h1, h2⟩ := I.sl i _ h
  exact ⟨v, h1, q v G H env d p (Ex.refl G) I h2⟩
theorem ev_int {i : Int} (p : P env (.int i)) : EvE K (tC (.int i)) env P := fun B σ G H Q I q => q _ G H env _ p (Ex.refl G) I (.int i)
theorem ev_str {x : Str} (p : P env (.str x)) : EvE K (tC (.str x)) env P := fun B σ G H Q I q => q _ G H env _ p (Ex.refl G) I (.str x)
theorem ev_bl {b : Bool} (p : P env (.bool b)) : EvE K (tC (.bl b)) env P := fun B σ G H Q I q => q _ G H env _ p (Ex.refl G) I (.bl b)
theorem ev_non (p : P env .none) : EvE K (tC .non) env P := fun B σ G H Q I q => q _ G H env _ p (Ex.refl G) I .non
theorem ev_op {r : R2} (h : EvE K ta env fun e1 d1 => EvE K tb e1 fun e2 d2 => RD K r e2 d1 d2 (P e2)) : EvE K (tOp r ta tb) env P := fun B σ G H Q I q =>
  h B σ G H _ I fun x G1 H1 e1 d1 p1 x1 I1 r1 => p1 B σ G1 H1 _ I1 fun y G2 H2 e2 d2 p2 x2 I2 r2 =>
    p2 B σ G2 H2 x y Q I2 (r1.ex x2) r2 fun v G3 H3 f pf x3 I3 r3 => q v G3 H3 e2 f pf ((x1.trans x2).trans x3) I3 r3
theorem ev_and (h : EvE K ta env fun e1 d => ∃ c, d = .bool c ∧ (c = true → EvE K tb e1 P) ∧ (c = false → P e1 (.bool false))) : EvE K (tAndV ta tb) env P := fun B σ G H Q I q =>
  h B σ G H _ I fun x G1 H1 e1 d1 p1 x1 I1 r1 => by
    obtain ⟨c, rfl, ht, hf⟩ := p1
    cases r1
    refine ⟨c, rfl, ?_⟩
    cases c with
    | true => exact iteT (ht rfl B σ G1 H1 Q I1 fun v G2 H2 e2 d2 p2 x2 I2 r2 => q v G2 H2 e2 d2 p2 (x1.trans x2) I2 r2)
    | false => exact iteF (q _ G1 H1 e1 _ (hf rfl) x1 I1 (.bl false))
theorem ev_or (h : EvE K ta env fun e1 d => ∃ c, d = .bool c ∧ (c = false → EvE K tb e1 P) ∧ (c = true → P e1 (.bool true))) : EvE K (tOrV ta tb) env P := fun B σ G H Q I q =>
  h B σ G H _ I fun x G1 H1 e1 d1 p1 x1 I1 r1 => by
    obtain ⟨c, rfl, hf, ht⟩ := p1
    cases r1
    refine ⟨c, rfl, ?_⟩
    cases c with
    | false => exact iteF (hf rfl B σ G1 H1 Q I1 fun v G2 H2 e2 d2 p2 x2 I2 r2 => q v G2 H2 e2 d2 p2 (x1.trans x2) I2 r2)
    | true => exact iteT (q _ G1 H1 e1 _ (ht rfl) x1 I1 (.bl true))
theorem ev_not (h : EvE K ta env fun e1 d => ∃ c, d = .bool c ∧ P e1 (.bool !c)) : EvE K (tNotV ta) env P := fun B σ G H Q I q =>
  h B σ G H _ I fun x G1 H1 e1 d1 p1 x1 I1 r1 => by
    obtain ⟨c, rfl, hc⟩ := p1
    cases r1
    exact ⟨c, rfl, q _ G1 H1 e1 _ hc x1 I1 (.bl _)⟩
theorem ev_test {P : En → Bool → Prop} (h : EvE K te env fun e1 d => ∃ c, d = .bool c ∧ P e1 c) : EvB K (tTest te) env P := fun B σ G H Q I q =>
  h B σ G H _ I fun x G1 H1 e1 d1 p1 x1 I1 r1 => by
    obtain ⟨c, rfl, hc⟩ := p1
    cases r1
    exact ⟨c, rfl, q c G1 H1 e1 hc x1 I1⟩
theorem ev_tB {P : En → Bool → Prop} (h : EvE K te env fun e1 d => ∃ c, d = .bool c ∧ P e1 c) : EvB K (tB te) env P := fun B σ G H Q I q =>
  h B σ G H _ I fun x G1 H1 e1 d1 p1 x1 I1 r1 => by
    obtain ⟨c, rfl, hc⟩ := p1
    cases r1
    exact ⟨c, rfl, q c G1 H1 e1 hc x1 I1⟩
theorem ev_if {tt : TT} (h : EvB K tt env fun e1 c => (c = true → EvE K ta e1 P) ∧ (c = false → EvE K tb e1 P)) : EvE K (tIf tt ta tb) env P := fun B σ G H Q I q =>
  h B σ G H _ I fun c G1 H1 e1 p1 x1 I1 => by
    cases c with
    | true => exact iteT (p1.1 rfl B σ G1 H1 Q I1 fun v G2 H2 e2 d2 p2 x2 I2 r2 => q v G2 H2 e2 d2 p2 (x1.trans x2) I2 r2)
    | false => exact iteF (p1.2 rfl B σ G1 H1 Q I1 fun v G2 H2 e2 d2 p2 x2 I2 r2 => q v G2 H2 e2 d2 p2 (x1.trans x2) I2 r2)
/-! ### arguments, displays -/
theorem ea_nil {P : En → List PyData → Prop} (p : P env []) : EvAs K tNil env P := fun B σ G H Q I q => q _ G H env _ p (Ex.refl G) I .nil
theorem ea_cons {P : En → List PyData → Prop} {tas : TA} (h : EvE K te env fun e1 d => EvAs K tas e1 fun e2 ds => P e2 (d :: ds)) : EvAs K (tCons te tas) env P := fun B σ G H Q I q =>
  h B σ G H _ I fun x G1 H1 e1 d1 p1 x1 I1 r1 => p1 B σ G1 H1 _ I1 fun vs G2 H2 e2 ds p2 x2 I2 r2 => q _ G2 H2 e2 _ p2 (x1.trans x2) I2 (.cons (r1.ex x2) r2)
theorem upd_dat {G : Hp} {p : Addr} {o : HO} : upd G p o p = some o := upd_same
theorem ev_tup {tas : TA} (h : EvAs K tas env fun e1 ds => ds.length ≤ sizeLine ∧ P e1 (.tuple ds)) : EvE K (tTup tas) env P := fun B σ G H Q I q =>
  h B σ G H _ I fun xs G1 H1 e1 ds p1 x1 I1 r1 => ⟨by rw [r1.length]; exact p1.1, fun p np => by
    have n := I1.exH.fresh np
    exact q _ _ _ e1 _ p1.2 (x1.trans (Ex.new n)) (I1.new np) (.tup upd_same (r1.ex (Ex.new n)))⟩
theorem ev_lst {tas : TA} (h : EvAs K tas env fun e1 ds => ds.length ≤ sizeLine ∧ P e1 (.list ds)) : EvE K (tLst tas) env P := fun B σ G H Q I q =>
  h B σ G H _ I fun xs G1 H1 e1 ds p1 x1 I1 r1 => ⟨by rw [r1.length]; exact p1.1, fun p np => by
    have n := I1.exH.fresh np
    exact q _ _ _ e1 _ p1.2 (x1.trans (Ex.new n)) (I1.new np) (.lst upd_same (r1.ex (Ex.new n)))⟩
theorem ev_cb {r : List V → Hp → VK → Prop} {tas : TA} (h : EvAs K tas env fun e1 ds => RC K r e1 ds (P e1)) : EvE K (tCB r tas) env P := fun B σ G H Q I q =>
  h B σ G H _ I fun xs G1 H1 e1 ds p1 x1 I1 r1 => p1 B σ G1 H1 xs Q I1 r1 fun v G2 H2 f pf x2 I2 r2 => q v G2 H2 e1 f pf (x1.trans x2) I2 r2
/-! ### slices -/
theorem eo_none {P : En → Option Int → Prop} (p : P env none) : EvO K tNoPart env P := fun B σ G H Q I q => q none G H env p (Ex.refl G) I
theorem eo_some {P : En → Option Int → Prop} (h : EvE K te env fun e1 d => ∃ i, d = .int i ∧ P e1 (some i)) : EvO K (tPart te) env P := fun B σ G H Q I q =>
  h B σ G H _ I fun x G1 H1 e1 d1 p1 x1 I1 r1 => by
    obtain ⟨i, rfl, hi⟩ := p1
    cases r1
    exact ⟨i, rfl, q _ G1 H1 e1 hi x1 I1⟩
theorem ev_sl {r : V → Option Int → Option Int → Hp → VK → Prop} {tl th : TO} (h : EvE K te env fun e1 d => EvO K tl e1 fun e2 lo => EvO K th e2 fun e3 hi => RS K r e3 d lo hi (P e3)) : EvE K (tSl r te tl th) env P := fun B σ G H Q I q =>
  h B σ G H _ I fun x G1 H1 e1 d1 p1 x1 I1 r1 => p1 B σ G1 H1 _ I1 fun lo G2 H2 e2 p2 x2 I2 => p2 B σ G2 H2 _ I2 fun hi G3 H3 e3 p3 x3 I3 =>
    p3 B σ G3 H3 x Q I3 (r1.ex (x2.trans x3)) fun v G4 H4 f pf x4 I4 r4 => q v G4 H4 e3 f pf (((x1.trans x2).trans x3).trans x4) I4 r4
/-! ### statements -/
theorem es_next (h : O.nx env) : EvS K tNext env O := fun B σ G H D I a b c d f => a σ G H env h (Ex.refl G) I
theorem es_seq (h : EvS K t env { O with nx := fun e1 => EvS K u e1 O }) : EvS K (tSeq t u) env O := fun B σ G H D I a b c d f =>
  h B σ G H { D with nx := u D } I (fun σ1 G1 H1 e1 p1 x1 I1 => p1 B σ1 G1 H1 D I1 (fun σ2 G2 H2 e2 p2 x2 I2 => a σ2 G2 H2 e2 p2 (x1.trans x2) I2) (fun v G2 H2 σ2 e2 d2 p2 x2 I2 r2 => b v G2 H2 σ2 e2 d2 p2 (x1.trans x2) I2 r2)
    (fun σ2 G2 H2 e2 p2 x2 I2 => c σ2 G2 H2 e2 p2 (x1.trans x2) I2) (fun σ2 G2 H2 e2 p2 x2 I2 => d σ2 G2 H2 e2 p2 (x1.trans x2) I2) (fun q σ2 G2 H2 e2 p2 x2 => f q σ2 G2 H2 e2 p2 (x1.trans x2))) b c d f
theorem es_ret (h : EvE K te env O.rt) : EvS K (tRet te) env O := fun B σ G H D I a b c d f => h B σ G H _ I fun v G1 H1 e1 d1 p1 x1 I1 r1 => b v G1 H1 σ e1 d1 p1 x1 I1 r1
theorem es_if {tt : TT} (h : EvB K tt env fun e1 c => (c = true → EvS K t e1 O) ∧ (c = false → EvS K u e1 O)) : EvS K (tIfS tt t u) env O := fun B σ G H D I a b c d f =>
  h B σ G H _ I fun k G1 H1 e1 p1 x1 I1 => by
    have go : ∀ {t : TS}, EvS K t e1 O → t D σ H1 := fun {t} ht => ht B σ G1 H1 D I1 (fun σ2 G2 H2 e2 p2 x2 I2 => a σ2 G2 H2 e2 p2 (x1.trans x2) I2) (fun v G2 H2 σ2 e2 d2 p2 x2 I2 r2 => b v G2 H2 σ2 e2 d2 p2 (x1.trans x2) I2 r2)
      (fun σ2 G2 H2 e2 p2 x2 I2 => c σ2 G2 H2 e2 p2 (x1.trans x2) I2) (fun σ2 G2 H2 e2 p2 x2 I2 => d σ2 G2 H2 e2 p2 (x1.trans x2) I2) (fun q σ2 G2 H2 e2 p2 x2 => f q σ2 G2 H2 e2 p2 (x1.trans x2))
    cases k with
    | true => exact iteT (go (p1.1 rfl))
    | false => exact iteF (go (p1.2 rfl))
theorem eg_name {i : Nat} {d : PyData} {P : En → Prop} (h : P (env.set i (some (.dat d)))) : EvG K (gName i) d env P := fun B σ G H v Q I r q => q _ _ h (I.setD r)
theorem es_asg {g : TG} (h : EvE K te env fun e1 d => EvG K g d e1 O.nx) : EvS K (tAsg te g) env O := fun B σ G H D I a b c d f =>
  h B σ G H _ I fun v G1 H1 e1 d1 p1 x1 I1 r1 => p1 B σ G1 H1 v D.nx I1 r1 fun σ2 e2 p2 I2 => a σ2 G1 H1 e2 p2 x1 I2
theorem es_drop (h : EvE K te env fun e1 _ => O.nx e1) : EvS K (tDrop te) env O := fun B σ G H D I a b c d f =>
  h B σ G H _ I fun v G1 H1 e1 d1 p1 x1 I1 r1 => a σ G1 H1 e1 p1 x1 I1
def GsOk (K : PySem.W.Frag) (u : TGs) (ds : List PyData) (env : En) (P : En → Prop) : Prop :=
  ∀ (B : Bs) (σ : L2.St) (G H : Hp) (vs : List V) (Q : L2.St → Hp → Prop), EnvOk K B G H σ env → DdAll G vs ds → (∀ σ' env', P env' → EnvOk K B G H σ' env' → Q σ' H) → u vs σ H Q
theorem egs_nil {P : En → Prop} (h : P env) : GsOk K gNil [] env P := fun B σ G H vs Q I r q => by
  cases r
  exact ⟨rfl, q σ env h I⟩
theorem egs_cons {g : TG} {us : TGs} {d : PyData} {ds : List PyData} {P : En → Prop} (h : EvG K g d env fun e1 => GsOk K us ds e1 P) : GsOk K (gCons g us) (d :: ds) env P := fun B σ G H vs Q I r q => by
  cases r with
  | cons r1 r2 => exact ⟨_, _, rfl, h B σ G H _ _ I r1 fun σ1 e1 p1 I1 => p1 B σ1 G H _ Q I1 r2 q⟩
theorem eg_tup {n : Nat} {us : TGs} {ds : List PyData} {P : En → Prop} (hl : ds.length = n) (h : GsOk K us ds env P) : EvG K (gTup K n us) (.tuple ds) env P := fun B σ G H v Q I r q => by
  cases r with
  | tup h1 h2 => exact ⟨_, _, rfl, SqT.of (I.exH _ _ h1), by rw [h2.length]; exact hl, h B σ G H _ Q I h2 q⟩
theorem EvS.imp {O' : Outs} (h : EvS K t env O) (a : ∀ e, O.nx e → O'.nx e) (b : ∀ e d, O.rt e d → O'.rt e d) (c : ∀ e, O.bk e → O'.bk e) (f : ∀ e, O.ct e → O'.ct e) (g : ∀ e, O.rn e → O'.rn e) : EvS K t env O' := fun B σ G H D I a' b' c' d' f' =>
  h B σ G H D I (fun σ1 G1 H1 e1 p => a' σ1 G1 H1 e1 (a _ p)) (fun v G1 H1 σ1 e1 d1 p => b' v G1 H1 σ1 e1 d1 (b _ _ p)) (fun σ1 G1 H1 e1 p => c' σ1 G1 H1 e1 (c _ p)) (fun σ1 G1 H1 e1 p => d' σ1 G1 H1 e1 (f _ p)) (fun q σ1 G1 H1 e1 p => f' q σ1 G1 H1 e1 (g _ p))
/-! ### loops -/
theorem es_for {wi : TI} {g : TG} (h : EvI K wi env fun e1 xs => ∃ W : Nat → En → Prop, W 0 e1 ∧ (∀ (i : Nat) (d : PyData) (e2 : En), xs[i]? = some d → W i e2 →
    EvG K g d e2 fun e3 => EvS K t e3 { nx := W (i + 1), rt := O.rt, bk := O.nx, ct := W (i + 1), rn := O.rn }) ∧ ∀ e2, W xs.length e2 → O.nx e2) : EvS K (tFor wi g t) env O := fun B σ G H D I a b c d f =>
  h B σ G H _ I fun J G1 H1 e1 xs p1 x1 I1 j => by
    obtain ⟨W, w0, ws, wd⟩ := p1
    refine ⟨fun i m σ2 H2 => ∃ G2 e2, m = xs.length - i ∧ i ≤ xs.length ∧ W i e2 ∧ Ex G1 G2 ∧ EnvOk K B G2 H2 σ2 e2, ⟨_, G1, e1, rfl, Nat.zero_le _, w0, Ex.refl _, I1⟩, ?_⟩
    rintro i m σ2 H2 ⟨G2, e2, rfl, hi, w2, x2, I2⟩
    obtain ⟨jg, js⟩ := j G2 H2 x2 I2.exH
    by_cases hlt : i < xs.length
    · obtain ⟨go, yl⟩ := jg i xs[i] (List.getElem?_eq_getElem hlt)
      refine .inr ⟨go, fun σ3 H3 => ∃ G3 e3, W (i + 1) e3 ∧ Ex G1 G3 ∧ EnvOk K B G3 H3 σ3 e3, fun σ3 H3 ⟨G3, e3, w3, x3, I3⟩ => ⟨xs.length - (i + 1), by omega, G3, e3, rfl, hlt, w3, x3, I3⟩, fun x H3 y => ?_⟩
      obtain ⟨e, r⟩ := yl x H3 y
      subst e
      refine ws i _ e2 (List.getElem?_eq_getElem hlt) w2 B σ2 G2 H3 x _ I2 r fun σ3 e3 p3 I3 => ?_
      exact p3 B σ3 G2 H3 _ I3 (fun σ4 G4 H4 e4 p4 x4 I4 => ⟨G4, e4, p4, x2.trans x4, I4⟩) (fun v G4 H4 σ4 e4 d4 p4 x4 I4 r4 => b v G4 H4 σ4 e4 d4 p4 ((x1.trans x2).trans x4) I4 r4)
        (fun σ4 G4 H4 e4 p4 x4 I4 => a σ4 G4 H4 e4 p4 ((x1.trans x2).trans x4) I4) (fun σ4 G4 H4 e4 p4 x4 I4 => ⟨G4, e4, p4, x2.trans x4, I4⟩) (fun q σ4 G4 H4 e4 p4 x4 => f q σ4 G4 H4 e4 p4 ((x1.trans x2).trans x4))
    · have e : i = xs.length := by omega
      subst e
      exact .inl ⟨js, a σ2 G2 H2 e2 (wd e2 w2) (x1.trans x2) I2⟩
theorem sqL_get {K : PySem.W.Frag} {H : Hp} {a : Addr} {xs ys : List V} (h : H a = some (.lst xs)) (h' : SqL K H a ys) (n : K.lookup a = none) : ys = xs := by
  rcases h' with (h' | ⟨o, h'⟩) | ⟨o, its, k, e, _⟩
  · rw [h] at h'; cases h'; rfl
  · rw [h] at h'; cases h'
  · rw [n] at e; cases e
end
end FD

set_option Elab.async false
set_option linter.all false
set_option maxRecDepth 100000
set_option maxHeartbeats 2000000
namespace FD
open PySem PySem.Spec PyProof.Rows L2

section
variable {K : PySem.W.Frag} {env : En} {ta tb tc te : TE} {t u : TS} {P : En → PyData → Prop} {O : Outs}
/-! ### what is walked -/
theorem jok_list {G : Hp} {a : Addr} {xs : List V} {ds : List PyData} (h : G a = some (.lst xs)) (r : DdAll G xs ds) : JOk (Itl K a) G ds := fun G1 H1 x1 x2 => by
  have hq : SqL K H1 a xs := SqL.of (x2 _ _ (x1 _ _ h))
  refine ⟨fun i d e => ?_, xs, hq, by rw [r.length]; exact Nat.le_refl _⟩
  obtain ⟨v, hv, rv⟩ := r.get e
  refine ⟨⟨xs, v, hq, hv⟩, fun y H2 hy => ⟨hy.1, ?_⟩⟩
  have := hy.2 xs hq
  rw [hv] at this
  cases this
  exact rv.ex x1
theorem jok_tup {G : Hp} {a : Addr} {xs : List V} {ds : List PyData} (h : G a = some (.tup xs)) (r : DdAll G xs ds) : JOk (Itt K a) G ds := fun G1 H1 x1 x2 => by
  have hq : SqT K H1 a xs := SqT.of (x2 _ _ (x1 _ _ h))
  refine ⟨fun i d e => ?_, xs, hq, by rw [r.length]; exact Nat.le_refl _⟩
  obtain ⟨v, hv, rv⟩ := r.get e
  refine ⟨⟨xs, v, hq, hv⟩, fun y H2 hy => ⟨hy.1, ?_⟩⟩
  have := hy.2 xs hq
  rw [hv] at this
  cases this
  exact rv.ex x1
theorem ei_list {P : En → List PyData → Prop} (h : EvE K te env fun e1 d => ∃ ds, d = .list ds ∧ P e1 ds) : EvI K (iList K te) env P := fun B σ G H R I q =>
  h B σ G H _ I fun x G1 H1 e1 d1 p1 x1 I1 r1 => by
    obtain ⟨ds, rfl, hp⟩ := p1
    cases r1 with
    | lst h1 h2 => exact ⟨_, rfl, ⟨_, SqL.of (I1.exH _ _ h1)⟩, q _ G1 H1 e1 ds hp x1 I1 (jok_list h1 h2)⟩
theorem ei_tup {P : En → List PyData → Prop} (h : EvE K te env fun e1 d => ∃ ds, d = .tuple ds ∧ P e1 ds) : EvI K (iTup K te) env P := fun B σ G H R I q =>
  h B σ G H _ I fun x G1 H1 e1 d1 p1 x1 I1 r1 => by
    obtain ⟨ds, rfl, hp⟩ := p1
    cases r1 with
    | tup h1 h2 => exact ⟨_, rfl, ⟨_, SqT.of (I1.exH _ _ h1)⟩, q _ G1 H1 e1 ds hp x1 I1 (jok_tup h1 h2)⟩
/-- a text's signs -/
def signs (x : Str) : List PyData := x.cps.toList.map fun c => .str ⟨#[c]⟩
theorem ei_str {P : En → List PyData → Prop} (h : EvE K te env fun e1 d => ∃ x, d = .str x ∧ P e1 (signs x)) : EvI K (iStr te) env P := fun B σ G H R I q =>
  h B σ G H _ I fun y G1 H1 e1 d1 p1 x1 I1 r1 => by
    obtain ⟨x, rfl, hp⟩ := p1
    cases r1
    refine ⟨x, rfl, q _ G1 H1 e1 _ hp x1 I1 fun G2 H2 x2 x3 => ⟨fun i d e => ?_, by show x.cps.size ≤ (signs x).length; simp [signs]⟩⟩
    have hi : i < x.cps.size := by
      have := (List.getElem?_eq_some_iff.mp e).1
      simpa [signs] using this
    refine ⟨hi, fun z H3 hz => ⟨hz.1, ?_⟩⟩
    obtain ⟨c, hc, rfl⟩ := hz.2
    simp only [signs, List.getElem?_map, Array.getElem?_toList, hc, Option.map_some, Option.some.injEq] at e
    subst e
    exact .str _
/-- lo, lo + 1, .. -/
def nums (lo : Int) (n : Nat) : List PyData := (List.range n).map fun i : Nat => .int (lo + (i : Int))
theorem nums_length {lo : Int} {n : Nat} : (nums lo n).length = n := by simp [nums]
theorem nums_get {lo : Int} {n i : Nat} {d : PyData} (h : (nums lo n)[i]? = some d) : i < n ∧ d = .int (lo + (i : Int)) := by
  have hi : i < n := by
    have := (List.getElem?_eq_some_iff.mp h).1
    simpa [nums] using this
  refine ⟨hi, ?_⟩
  simp only [nums, List.getElem?_map, List.getElem?_range hi, Option.map_some, Option.some.injEq] at h
  exact h.symm
theorem jok_range {G : Hp} {lo : Int} {n : Nat} : JOk (Itr lo n) G (nums lo n) := fun G1 H1 x1 x2 => by
  refine ⟨fun i d e => ?_, by show n ≤ _; rw [nums_length]; exact Nat.le_refl _⟩
  obtain ⟨hi, rfl⟩ := nums_get e
  refine ⟨hi, fun y H2 hy => ⟨hy.1, ?_⟩⟩
  rw [hy.2]
  exact .int _
theorem ei_rng1 {P : En → List PyData → Prop} {tas : TA} (h : EvAs K tas env fun e1 ds => ∃ j : Int, ds = [.int j] ∧ (-(2 ^ 62) ≤ j ∧ j < 2 ^ 62) ∧ P e1 (nums 0 j.toNat)) : EvI K (iRng1 tas) env P := fun B σ G H R I q =>
  h B σ G H _ I fun vs G1 H1 e1 ds p1 x1 I1 r1 => by
    obtain ⟨j, rfl, ⟨b1, b2⟩, hp⟩ := p1
    cases r1 with
    | cons r1 r2 =>
      cases r1; cases r2
      exact ⟨j, rfl, b1, b2, q _ G1 H1 e1 _ hp x1 I1 jok_range⟩
theorem ei_rng2 {P : En → List PyData → Prop} {tas : TA} (h : EvAs K tas env fun e1 ds => ∃ i j : Int, ds = [.int i, .int j] ∧ (-(2 ^ 62) ≤ i ∧ i < 2 ^ 62 ∧ -(2 ^ 62) ≤ j ∧ j < 2 ^ 62) ∧ P e1 (nums i (j - i).toNat)) : EvI K (iRng2 tas) env P := fun B σ G H R I q =>
  h B σ G H _ I fun vs G1 H1 e1 ds p1 x1 I1 r1 => by
    obtain ⟨i, j, rfl, b, hp⟩ := p1
    cases r1 with
    | cons r1 r2 =>
      cases r1
      cases r2 with
      | cons r2 r3 =>
        cases r2; cases r3
        exact ⟨i, j, rfl, b, q _ G1 H1 e1 _ hp x1 I1 jok_range⟩
/-! ### a comprehension, its name in slot i -/
/-- an object that is being made, kept as part of what was known at the entry -/
theorem EnvOk.hide {B : Bs} {G H : Hp} {σ : L2.St} {env : En} (h : EnvOk K B G H σ env) {D : Addr} {o : HO} (hD : H D = some o) (gD : G D = none) (nD : ∀ (j : Nat) (s : Sl), env[j]? = some (some s) → s.ad ≠ some D) (mD : ¬ B.mu D) :
    EnvOk K ⟨upd B.H D o, B.G, B.mu⟩ G H σ env := by
  refine ⟨h.exH, h.exG, fun q u hq hm => ?_, fun q u hq hg => ?_, fun q u hq => ?_, fun q hq => ?_, h.len, h.sl, fun i s p e a => ?_, h.inj⟩
  · by_cases z : q = D
    · subst z
      have hq' : (upd B.H q o) q = some u := hq
      rw [upd_same] at hq'; cases hq'; exact hD
    · have hq' : (upd B.H D o) q = some u := hq
      rw [upd_ne z] at hq'; exact h.keep q u hq' hm
  · by_cases z : q = D
    · subst z; exact gD
    · have hq' : (upd B.H D o) q = some u := hq
      rw [upd_ne z] at hq'; exact h.nog q u hq' hg
  · by_cases z : q = D
    · subst z; exact ⟨o, hD⟩
    · have hq' : (upd B.H D o) q = some u := hq
      rw [upd_ne z] at hq'; exact h.there q u hq'
  · obtain ⟨u, hu⟩ := h.mus q hq
    refine ⟨u, ?_⟩
    show (upd B.H D o) q = some u
    rw [upd_ne (fun z : q = D => mD (by rw [← z]; exact hq))]; exact hu
  · rcases h.mine i s p e a with m | m
    · refine .inl ?_
      show (upd B.H D o) p = none
      rw [upd_ne (fun z : p = D => nD i s e (by rw [← z]; exact a))]; exact m
    · exact .inr m
theorem EnvOk.unhide {B : Bs} {G H : Hp} {σ : L2.St} {env : En} {D : Addr} {o : HO} (h : EnvOk K ⟨upd B.H D o, B.G, B.mu⟩ G H σ env) (bD : B.H D = none) (mD : ¬ B.mu D) (gB : B.G D = none) :
    EnvOk K B G H σ env ∧ H D = some o ∧ G D = none ∧ ∀ (j : Nat) (s : Sl), env[j]? = some (some s) → s.ad ≠ some D := by
  have nq : ∀ {q : Addr} {u : HO}, B.H q = some u → q ≠ D := fun hq z => by rw [z, bD] at hq; cases hq
  refine ⟨⟨h.exH, h.exG, fun q u hq hm => h.keep q u (by show (upd B.H D o) q = _; rw [upd_ne (nq hq)]; exact hq) hm, fun q u hq hg => h.nog q u (by show (upd B.H D o) q = _; rw [upd_ne (nq hq)]; exact hq) hg,
    fun q u hq => h.there q u (by show (upd B.H D o) q = _; rw [upd_ne (nq hq)]; exact hq), fun q hq => ?_, h.len, h.sl, fun i s p e a => ?_, h.inj⟩, h.keep D o upd_same mD, h.nog D o upd_same gB, fun j s e a => ?_⟩
  · obtain ⟨u, hu⟩ := h.mus q hq
    have hu' : (upd B.H D o) q = some u := hu
    rw [upd_ne (fun z : q = D => mD (by rw [← z]; exact hq))] at hu'
    exact ⟨u, hu'⟩
  · rcases h.mine i s p e a with m | m
    · have m' : (upd B.H D o) p = none := m
      by_cases z : p = D
      · subst z; exact .inl bD
      · rw [upd_ne z] at m'; exact .inl m'
    · exact .inr m
  · rcases h.mine j s D e a with m | m
    · have m' : (upd B.H D o) D = none := m
      rw [upd_same] at m'; cases m'
    · exact mD m.1


/-- what was being made is done: from now on it stays -/
theorem EnvOk.freeze {B : Bs} {G H : Hp} {σ : L2.St} {env : En} (h : EnvOk K B G H σ env) {D : Addr} {o : HO} (hD : H D = some o) (gD : G D = none) (nD : ∀ (j : Nat) (s : Sl), env[j]? = some (some s) → s.ad ≠ some D) (bD : B.H D = none) :
    EnvOk K B (upd G D o) H σ env := by
  refine ⟨fun a u e => ?_, h.exG.trans (Ex.new gD), h.keep, fun q u hq hg => ?_, h.there, h.mus, h.len, fun j s e => ?_, h.mine, h.inj⟩
  · by_cases z : a = D
    · subst z; rw [upd_same] at e; cases e; exact hD
    · rw [upd_ne z] at e; exact h.exH a u e
  · rw [upd_ne (fun z : q = D => by rw [z, bD] at hq; cases hq)]; exact h.nog q u hq hg
  · obtain ⟨v, h1, h2⟩ := h.sl j s e
    refine ⟨v, h1, h2.ex (Ex.new gD) (fun p hp => ?_) fun p u _ hu => hu⟩
    rw [upd_ne (fun z : p = D => nD j s e (by rw [← z]; exact hp))]
    exact (h2.has hp).2.1
theorem EnvOk.unwipe {B : Bs} {G H : Hp} {σ : L2.St} {env : En} {i : Nat} (h : EnvOk K B G H (σ.set i none) env) : EnvOk K B G H σ (env.set i none) := by
  have I := h.setN i
  refine ⟨h.exH, h.exG, h.keep, h.nog, h.there, h.mus, by have := h.len; simp at this; simp [this], fun j s e => ?_, I.mine, I.inj⟩
  obtain ⟨v, h1, h2⟩ := I.sl j s e
  refine ⟨v, ?_, h2⟩
  by_cases z : i = j
  · subst z
    by_cases q : i < σ.length
    · rw [List.getElem?_set_self (by simpa using q)] at h1; cases h1
    · rw [List.set_eq_of_length_le (by simpa using q), List.set_eq_of_length_le (by omega)] at h1; exact h1
  · rw [List.getElem?_set_ne z, List.getElem?_set_ne z] at h1; exact h1
theorem wipe1 (σ : L2.St) (i : Nat) : wipe σ [i] = σ.set i none := rfl
/-- [e for x in xs if t]: by a word over the turn, the environment and what is made so far -/
theorem ev_lc {wi : TI} {i : Nat} {tt : TT} (h : EvI K wi env fun e1 xs => ∃ W : Nat → En → List PyData → Prop, W 0 (e1.set i none) [] ∧
    (∀ (j : Nat) (d : PyData) (e2 : En) (acc : List PyData), xs[j]? = some d → W j e2 acc → acc.length < sizeLine ∧ EvB K tt (e2.set i (some (.dat d))) fun e3 b =>
      (b = true → EvE K te e3 fun e4 y => W (j + 1) (e4.set i none) (acc ++ [y])) ∧ (b = false → W (j + 1) (e3.set i none) acc)) ∧
    ∀ (e2 : En) (acc : List PyData), W xs.length e2 acc → P (e2.set i none) (.list acc)) : EvE K (tLc wi (gName i) tt te [i]) env P := fun B σ G H Q I q =>
  h B σ G H _ I fun J G1 H1 e1 xs p1 x1 I1 j => by
    obtain ⟨W, w0, ws, wd⟩ := p1
    intro D nD
    have gD : G1 D = none := I1.exH.fresh nD
    have bD : B.H D = none := by
      cases z : B.H D with
      | none => rfl
      | some o => obtain ⟨u, hu⟩ := I1.there D o z; rw [nD] at hu; cases hu
    have mD : ¬ B.mu D := fun m => by obtain ⟨o, ho⟩ := I1.mus D m; rw [bD] at ho; cases ho
    have gB : B.G D = none := I1.exG.fresh gD
    have sD : ∀ (j : Nat) (s : Sl), (e1.set i none)[j]? = some (some s) → s.ad ≠ some D := fun j s e a => by
      obtain ⟨v, _, hs⟩ := (I1.setN i).sl j s e
      obtain ⟨_, _, o, ho⟩ := hs.has a
      rw [nD] at ho; cases ho
    -- the state between two turns
    let St := fun (jn : Nat) (H2 : Hp) => ∃ (G2 : Hp) (e2 : En) (acc : List PyData) (av : List V), jn ≤ xs.length ∧ W jn e2 acc ∧ Ex G1 G2 ∧ DdAll G2 av acc ∧ EnvOk K ⟨upd B.H D (.lst av), B.G, B.mu⟩ G2 H2 (σ.set i none) e2
    have start : St 0 (upd H1 D (.lst [])) := by
      refine ⟨G1, e1.set i none, [], [], Nat.zero_le _, w0, Ex.refl _, .nil, ?_⟩
      have I2 := I1.setN i
      refine EnvOk.hide ?_ upd_same gD sD mD
      exact ⟨I2.exH.trans (Ex.new nD), I2.exG, fun q u hq hm => Ex.new nD _ _ (I2.keep q u hq hm), I2.nog, fun q u hq => by obtain ⟨w, hw⟩ := I2.there q u hq; exact ⟨w, Ex.new nD _ _ hw⟩, I2.mus, I2.len,
        fun k s e => by
          obtain ⟨v, h1, h2⟩ := I2.sl k s e
          exact ⟨v, h1, h2.ex (Ex.refl _) (fun p hp => (h2.has hp).2.1) fun p o hp ho => Ex.new nD _ _ ho⟩, I2.mine, I2.inj⟩
    refine ⟨fun jn m H2 => m = xs.length - jn ∧ St jn H2, ⟨_, rfl, start⟩, ?_⟩
    rintro jn m H2 ⟨rfl, G2, e2, acc, av, hj, w2, x2, ra, I2⟩
    obtain ⟨jg, js⟩ := j G2 H2 x2 I2.exH
    by_cases hlt : jn < xs.length
    · obtain ⟨go, yl⟩ := jg jn xs[jn] (List.getElem?_eq_getElem hlt)
      refine .inr ⟨go, St (jn + 1), fun H3 s3 => ⟨xs.length - (jn + 1), by omega, rfl, s3⟩, fun x H3 y => ?_⟩
      obtain ⟨e, r⟩ := yl x H3 y
      subst e
      obtain ⟨hl, hb⟩ := ws jn _ e2 acc (List.getElem?_eq_getElem hlt) w2
      show wipe ((wipe σ [i]).set i (some x)) [i] = wipe σ [i] ∧ _
      refine ⟨by rw [wipe1, wipe1, List.set_set, List.set_set], ?_⟩
      have I3 : EnvOk K ⟨upd B.H D (.lst av), B.G, B.mu⟩ G2 H3 ((wipe σ [i]).set i (some x)) (e2.set i (some (.dat xs[jn]))) := I2.setD r
      have back : ((wipe σ [i]).set i (some x)).set i none = σ.set i none := by rw [wipe1, List.set_set, List.set_set]
      refine hb _ _ G2 H3 _ I3 fun b G4 H4 e4 p4 x4 I4 => ?_
      cases b with
      | false =>
        refine iteF ⟨G4, e4.set i none, acc, av, hlt, p4.2 rfl, x2.trans x4, ra.ex x4, ?_⟩
        have := I4.setN i
        rw [back] at this
        exact this
      | true =>
        refine iteT (p4.1 rfl _ _ G4 H4 _ I4 fun yv G5 H5 e5 yd p5 x5 I5 r5 => ?_)
        obtain ⟨I6, hD5, gD5, sD5⟩ := I5.unhide bD mD gB
        refine ⟨av, hD5, by rw [ra.length]; exact hl, G5, e5.set i none, acc ++ [yd], av ++ [yv], hlt, p5, (x2.trans x4).trans x5, ((ra.ex x4).ex x5).append (.cons r5 .nil), ?_⟩
        have I7 := I6.setN i
        rw [back] at I7
        have sD7 : ∀ (k : Nat) (s : Sl), (e5.set i none)[k]? = some (some s) → s.ad ≠ some D := fun k s e => by
          by_cases z : i = k
          · subst z
            by_cases q : i < e5.length
            · rw [List.getElem?_set_self q] at e; cases e
            · rw [List.set_eq_of_length_le (by omega)] at e; exact sD5 _ _ e
          · rw [List.getElem?_set_ne z] at e; exact sD5 _ _ e
        refine EnvOk.hide (H := upd H5 D (.lst (av ++ [yv]))) ?_ upd_same gD5 sD7 mD
        have up : ∀ {p : Addr} {o : HO}, p ≠ D → H5 p = some o → (upd H5 D (.lst (av ++ [yv]))) p = some o := fun n e => by rw [upd_ne n]; exact e
        have nq : ∀ {p : Addr} {o : HO}, B.H p = some o → p ≠ D := fun e z => by rw [z, bD] at e; cases e
        exact ⟨fun p o e => up (fun z => by rw [z, gD5] at e; cases e) (I7.exH p o e), I7.exG, fun p o e m => up (nq e) (I7.keep p o e m), I7.nog, fun p o e => by obtain ⟨w, hw⟩ := I7.there p o e; exact ⟨w, up (nq e) hw⟩, I7.mus, I7.len,
          fun k s e => by
            obtain ⟨v, h1, h2⟩ := I7.sl k s e
            exact ⟨v, h1, h2.ex (Ex.refl _) (fun p hp => (h2.has hp).2.1) fun p o hp ho => up (fun z => sD7 k s e (by rw [← z]; exact hp)) ho⟩, I7.mine, I7.inj⟩
    · have e : jn = xs.length := by omega
      subst e
      refine .inl ⟨js, ?_⟩
      obtain ⟨I6, hD5, gD5, sD5⟩ := I2.unhide bD mD gB
      have I7 := I6.unwipe.freeze hD5 gD5 (fun k s e => by
        by_cases z : i = k
        · subst z
          by_cases q : i < e2.length
          · rw [List.getElem?_set_self q] at e; cases e
          · rw [List.set_eq_of_length_le (by omega)] at e; exact sD5 _ _ e
        · rw [List.getElem?_set_ne z] at e; exact sD5 _ _ e) bD
      exact q _ _ H2 _ _ (wd e2 acc w2) ((x1.trans x2).trans (Ex.new gD5)) I7 (.lst upd_same (ra.ex (Ex.new gD5)))
end
end FD

set_option Elab.async false
set_option linter.all false
set_option maxRecDepth 100000
set_option maxHeartbeats 2000000
namespace FD
open PySem PySem.Spec PyProof.Rows L2

/-! ### operators of any data: one reading for each sign -/
def rPlus (K : PySem.W.Frag) : R2 := fun x y H Q => rI0 (fun i j => .int (i + j)) x y H Q ∨ (∃ i j : Str, x = .str i ∧ y = .str j ∧ i.length + j.length ≤ sizeLine ∧ Q (.str (i ++ j)) H) ∨ rCat x y H Q ∨ rCatA K x y H Q
def rTimes (K : PySem.W.Frag) : R2 := fun x y H Q => rI CMul (fun i j => .int (i * j)) x y H Q ∨ rI CMulW (fun i j => .int (i * j)) x y H Q ∨ rRepT K x y H Q ∨ rRep x y H Q
def rIsAny : R2 := fun x y H Q => rIsB x y H Q ∨ (y = .non ∧ Q (.bl (decide (x = .non))) H)
def rIsNotAny : R2 := fun x y H Q => rNotB x y H Q ∨ (y = .non ∧ Q (.bl (!decide (x = .non))) H)
def rOver : R2 := fun x y H Q => rI CDivN (fun i j => .int (i.fdiv j)) x y H Q
def rMod : R2 := fun x y H Q => rI (fun _ j => j ≠ 0) (fun i j => .int (i.fmod j)) x y H Q
def rLe : R2 := fun x y H Q => rI0 (fun i j => .bl (decide (i ≤ j))) x y H Q ∨ ∃ i j : Str, x = .str i ∧ y = .str j ∧ Q (.bl (!decide (j.cps.toList < i.cps.toList))) H
def rSlice (K : PySem.W.Frag) : V → Option Int → Option Int → Hp → VK → Prop := fun x lo hi H Q => rSlL K x lo hi H Q ∨ rSlA K x lo hi H Q ∨ rSlS x lo hi H Q
section
variable {X : Cx}
theorem op_plus : OpR X (binaryOp .Add) (rPlus X.K) := op_add.or (op_add_str.or (op_cat.or op_catA))
theorem op_times : OpR X (binaryOp .Mult) (rTimes X.K) := op_mul.or (op_mulW.or (op_repT.or op_rep))
theorem op_isAny : OpR X (compareOp .Is) rIsAny := op_isBl.or op_isN
theorem op_isNotAny : OpR X (compareOp .IsNot) rIsNotAny := op_notBl.or op_notN
theorem op_leAny : OpR X (compareOp .LtE) rLe := op_le.or op_le_str
theorem sl_any : SlR X (rSlice X.K) := sl_list.or (sl_tupA.or sl_str)
theorem Room.u64 {k : Nat} {A : Around} (r : Room k A) : A.units + 64 < cLine := by have := r.un; omega
theorem Room.u1 {k : Nat} {A : Around} (r : Room k A) : A.units + 1 < cLine := by have := r.un; omega
/-- repr of data -/
def rRepr (K : PySem.W.Frag) : List V → Hp → VK → Prop := fun xs H Q => ∃ x, xs = [x] ∧
  ((x = .non ∧ Q (.str "None") H) ∨ (∃ i, x = .int i ∧ i.natAbs.log2 < 1920 ∧ Q (.str (toString i)) H) ∨
    ∃ (a : Addr) (d : PyData), x = .ref a ∧ Dp K H (.ref a) d ∧ d.showable = true ∧ d.hasDict = false ∧ d.depth ≤ 60 ∧ d.shown.length ≤ sizeLine ∧ Q (.str d.shown) H)
theorem call_repr {k : Nat} (hr : Room k X.A) (hg : X.A.guards = some []) : CallR X (.builtin "repr") (rRepr X.K) := by
  intro pins s σ H xs us Q I r h
  obtain ⟨x, rfl, h⟩ := h
  obtain ⟨u, rfl, rx⟩ := vals1 r
  rcases h with ⟨rfl, q⟩ | ⟨i, rfl, hz, q⟩ | ⟨a, d, rfl, hd, sh, nd, dp, sz, q⟩
  · cases rx
    exact PySem.P.repr_of_none ⟨.str _, H, I.tok _, ⟨_, rfl⟩, q⟩
  · obtain ⟨t, rfl⟩ := rx
    exact PySem.P.repr_of_int hz ⟨.str _, H, I.tok _, ⟨_, rfl⟩, q⟩
  · obtain ⟨as, rd⟩ := Dp.reads I d (.ref a) u hd rx
    cases rx
    refine repr_of_reads' rd sh (PyData.noDict_hsm nd) hg (by have := Room.u64 hr; omega) (fun _ _ e => e) (fun h' v tk hk => ?_) sz
    exact ⟨.str _, H, I.kept (t' := tk) hk, ⟨_, rfl⟩, q⟩
end

section
variable {K : PySem.W.Frag} {env : En} {P : PyData → Prop}
/-! ### what they do on data -/
theorem rd_keep {r : R2} {d e f : PyData} (p : P f) (h : ∀ (G H : Hp) (x y : V) (Q : VK), Ex G H → Dd G x d → Dd G y e → (∀ v, Dd G v f → Q v H) → r x y H Q) : RD K r env d e P :=
  fun B σ G H x y Q I rx ry q => h G H x y Q I.exH rx ry fun v rv => q v G H f p (Ex.refl G) I rv
theorem rd_int {g : Int → Int → Int} {i j : Int} (p : P (.int (g i j))) : RD K (rI0 fun i j => .int (g i j)) env (.int i) (.int j) P := rd_keep p fun G H x y Q _ rx ry q => by
  cases rx; cases ry; exact ⟨i, j, rfl, rfl, q _ (.int _)⟩
theorem rd_cmp {g : Int → Int → Bool} {i j : Int} (p : P (.bool (g i j))) : RD K (rI0 fun i j => .bl (g i j)) env (.int i) (.int j) P := rd_keep p fun G H x y Q _ rx ry q => by
  cases rx; cases ry; exact ⟨i, j, rfl, rfl, q _ (.bl _)⟩
theorem rd_intC {C : Int → Int → Prop} {g : Int → Int → Int} {i j : Int} (hc : C i j) (p : P (.int (g i j))) : RD K (rI C fun i j => .int (g i j)) env (.int i) (.int j) P := rd_keep p fun G H x y Q _ rx ry q => by
  cases rx; cases ry; exact ⟨i, j, rfl, rfl, hc, q _ (.int _)⟩
theorem rd_plusI {i j : Int} (p : P (.int (i + j))) : RD K (rPlus K) env (.int i) (.int j) P := fun B σ G H x y Q I rx ry q => .inl (rd_int p B σ G H x y Q I rx ry q)
theorem rd_plusS {i j : Str} (hl : i.length + j.length ≤ sizeLine) (p : P (.str (i ++ j))) : RD K (rPlus K) env (.str i) (.str j) P := fun B σ G H x y Q I rx ry q => by
  cases rx; cases ry; exact .inr (.inl ⟨i, j, rfl, rfl, hl, q _ G H _ p (Ex.refl G) I (.str _)⟩)
theorem rd_plusL {xs ys : List PyData} (hl : xs.length + ys.length ≤ sizeLine) (p : P (.list (xs ++ ys))) : RD K (rPlus K) env (.list xs) (.list ys) P := fun B σ G H x y Q I rx ry q => by
  cases rx with
  | lst h1 r1 =>
    cases ry with
    | lst h2 r2 =>
      refine .inr (.inr (.inl ⟨_, _, _, _, rfl, rfl, I.exH _ _ h1, I.exH _ _ h2, by rw [r1.length, r2.length]; exact hl, fun p' np => ?_⟩))
      have n := I.exH.fresh np
      exact q _ _ _ _ p (Ex.new n) (I.new np) (.lst upd_same ((r1.append r2).ex (Ex.new n)))
theorem rd_plusT {xs ys : List PyData} (hl : xs.length + ys.length ≤ sizeLine) (p : P (.tuple (xs ++ ys))) : RD K (rPlus K) env (.tuple xs) (.tuple ys) P := fun B σ G H x y Q I rx ry q => by
  cases rx with
  | tup h1 r1 =>
    cases ry with
    | tup h2 r2 =>
      refine .inr (.inr (.inr ⟨_, _, _, _, rfl, rfl, SqT.of (I.exH _ _ h1), SqT.of (I.exH _ _ h2), by rw [r1.length, r2.length]; exact hl, fun e => ?_, fun _ e => ?_, fun _ _ p' np => ?_⟩))
      · subst e
        cases r1
        exact q _ G H _ p (Ex.refl G) I (.tup h2 r2)
      · subst e
        cases r2
        rw [List.append_nil] at p
        exact q _ G H _ p (Ex.refl G) I (.tup h1 r1)
      · have n := I.exH.fresh np
        exact q _ _ _ _ p (Ex.new n) (I.new np) (.tup upd_same ((r1.append r2).ex (Ex.new n)))
theorem rd_timesI {i j : Int} (hc : CMul i j) (p : P (.int (i * j))) : RD K (rTimes K) env (.int i) (.int j) P := fun B σ G H x y Q I rx ry q => .inl (rd_intC (C := CMul) (g := fun i j => i * j) hc p B σ G H x y Q I rx ry q)
theorem rd_timesW {i j : Int} (hc : CMulW i j) (p : P (.int (i * j))) : RD K (rTimes K) env (.int i) (.int j) P := fun B σ G H x y Q I rx ry q => .inr (.inl (rd_intC (C := CMulW) (g := fun i j => i * j) hc p B σ G H x y Q I rx ry q))
theorem rd_timesT {xs : List PyData} {k : Int} (hx : xs ≠ []) (h2 : 2 ≤ k) (hk : k ≤ 1000) (hl : xs.length ≤ 1000) (p : P (.tuple (List.replicate k.toNat xs).flatten)) : RD K (rTimes K) env (.tuple xs) (.int k) P := fun B σ G H x y Q I rx ry q => by
  cases rx with
  | tup h1 r1 =>
    cases ry
    refine .inr (.inr (.inl ⟨_, k, _, rfl, rfl, SqT.of (I.exH _ _ h1), fun e => ?_, h2, hk, by rw [r1.length]; exact hl, fun p' np => ?_⟩))
    · subst e; cases r1; exact hx rfl
    · have n := I.exH.fresh np
      exact q _ _ _ _ p (Ex.new n) (I.new np) (.tup upd_same ((r1.rep _).ex (Ex.new n)))
theorem rd_modI {i j : Int} (hc : j ≠ 0) (p : P (.int (i.fmod j))) : RD K rMod env (.int i) (.int j) P := rd_intC (C := fun _ j => j ≠ 0) (g := fun i j => i.fmod j) hc p
theorem rd_overI {i j : Int} (hc : CDivN i j) (p : P (.int (i.fdiv j))) : RD K rOver env (.int i) (.int j) P := rd_intC (C := CDivN) (g := fun i j => i.fdiv j) hc p
theorem rd_leI {i j : Int} (p : P (.bool (decide (i ≤ j)))) : RD K rLe env (.int i) (.int j) P := fun B σ G H x y Q I rx ry q => .inl (rd_cmp (g := fun i j => decide (i ≤ j)) p B σ G H x y Q I rx ry q)
theorem rd_leS {i j : Str} (p : P (.bool (!decide (j.cps.toList < i.cps.toList)))) : RD K rLe env (.str i) (.str j) P := fun B σ G H x y Q I rx ry q => by
  cases rx; cases ry; exact .inr ⟨i, j, rfl, rfl, q _ G H _ p (Ex.refl G) I (.bl _)⟩
theorem rd_ltI {i j : Int} (p : P (.bool (decide (i < j)))) : RD K (rI0 fun i j => .bl (decide (i < j))) env (.int i) (.int j) P := rd_cmp (g := fun i j => decide (i < j)) p
theorem rd_gtI {i j : Int} (p : P (.bool (decide (j < i)))) : RD K (rI0 fun i j => .bl (decide (j < i))) env (.int i) (.int j) P := rd_cmp (g := fun i j => decide (j < i)) p
theorem rd_geI {i j : Int} (p : P (.bool (decide (j ≤ i)))) : RD K (rI0 fun i j => .bl (decide (j ≤ i))) env (.int i) (.int j) P := rd_cmp (g := fun i j => decide (j ≤ i)) p
/-- a thing that == goes over -/
def eqOk (d : PyData) : Bool := noDict d && SeqAt.shaped d
theorem rd_eq {d e : PyData} (hd : eqOk d = true) (he : eqOk e = true) (p : P (.bool (PyData.eqv d e))) : RD K (rEqD K) env d e P := rd_keep p fun G H x y Q x1 rx ry q => by
  simp only [eqOk, Bool.and_eq_true] at hd he
  exact ⟨d, e, Dd.dp d x hd.1 (rx.ex x1), Dd.dp e y he.1 (ry.ex x1), hd.2, he.2, q _ (.bl _)⟩
theorem rd_ne {d e : PyData} (hd : eqOk d = true) (he : eqOk e = true) (p : P (.bool (!PyData.eqv d e))) : RD K (rNeD K) env d e P := rd_keep p fun G H x y Q x1 rx ry q => by
  simp only [eqOk, Bool.and_eq_true] at hd he
  exact ⟨d, e, Dd.dp d x hd.1 (rx.ex x1), Dd.dp e y he.1 (ry.ex x1), hd.2, he.2, q _ (.bl _)⟩
theorem rd_isB {a b : Bool} (p : P (.bool (decide (a = b)))) : RD K rIsAny env (.bool a) (.bool b) P := rd_keep p fun G H x y Q x1 rx ry q => by
  cases rx; cases ry; exact .inl ⟨a, b, rfl, rfl, q _ (.bl _)⟩
theorem rd_isNotB {a b : Bool} (p : P (.bool (!decide (a = b)))) : RD K rIsNotAny env (.bool a) (.bool b) P := rd_keep p fun G H x y Q x1 rx ry q => by
  cases rx; cases ry; exact .inl ⟨a, b, rfl, rfl, q _ (.bl _)⟩
def isNone : PyData → Bool
  | .none => true
  | _ => false
theorem Dd.isNone {H : Hp} {x : V} {d : PyData} (r : Dd H x d) : decide (x = .non) = isNone d := by
  cases r <;> rfl
theorem rd_isN {d : PyData} (p : P (.bool (isNone d))) : RD K rIsAny env d .none P := rd_keep p fun G H x y Q x1 rx ry q => by
  cases ry; refine .inr ⟨rfl, q _ ?_⟩; rw [rx.isNone]; exact .bl _
theorem rd_isNotN {d : PyData} (p : P (.bool (!isNone d))) : RD K rIsNotAny env d .none P := rd_keep p fun G H x y Q x1 rx ry q => by
  cases ry; refine .inr ⟨rfl, q _ ?_⟩; rw [rx.isNone]; exact .bl _
theorem rd_inS {i j : Str} (p : P (.bool (!(Builtin.Str.occurrences j i 0 j.length 1).isEmpty))) : RD K (fun x y H Q => ∃ i j, x = .str i ∧ y = .str j ∧ Q (.bl (!(Builtin.Str.occurrences j i 0 j.length 1).isEmpty)) H) env (.str i) (.str j) P :=
  rd_keep p fun G H x y Q x1 rx ry q => by
    cases rx; cases ry; exact ⟨i, j, rfl, rfl, q _ (.bl _)⟩
/-! items -/
theorem DdAll.atI {G : Hp} {xs : List V} {ds : List PyData} {i : Int} {d : PyData} (r : DdAll G xs ds) (h : L2.atI ds i = some d) : ∃ v, L2.atI xs i = some v ∧ Dd G v d := by
  unfold L2.atI at h ⊢
  rw [r.length]
  cases e : ixN ds.length i with
  | none => rw [e] at h; cases h
  | some j =>
    rw [e] at h
    exact r.get h
theorem rd_ixL {ds : List PyData} {i : Int} {d : PyData} (h : L2.atI ds i = some d) (p : P d) : RD K (rIx K) env (.list ds) (.int i) P := rd_keep p fun G H x y Q x1 rx ry q => by
  cases rx with
  | lst h1 r1 =>
    cases ry
    obtain ⟨v, hv, rv⟩ := r1.atI h
    exact .inl ⟨_, _, i, v, rfl, rfl, SqL.of (x1 _ _ h1), hv, q v rv⟩
theorem rd_ixT {ds : List PyData} {i : Int} {d : PyData} (h : L2.atI ds i = some d) (p : P d) : RD K (rIx K) env (.tuple ds) (.int i) P := rd_keep p fun G H x y Q x1 rx ry q => by
  cases rx with
  | tup h1 r1 =>
    cases ry
    obtain ⟨v, hv, rv⟩ := r1.atI h
    exact .inr (.inl ⟨_, _, i, v, rfl, rfl, SqT.of (x1 _ _ h1), hv, q v rv⟩)
theorem rd_ixS {z : Str} {i : Int} {c : Nat} (hl : z.length ≤ sizeLine) (h : L2.atI z.cps.toList i = some c) (p : P (.str ⟨#[c]⟩)) : RD K (rIx K) env (.str z) (.int i) P := rd_keep p fun G H x y Q x1 rx ry q => by
  cases rx; cases ry; exact .inr (.inr ⟨z, i, c, rfl, rfl, hl, h, q _ (.str _)⟩)
/-! slices -/
def cutD (xs : List PyData) (lo hi : Option Int) : List PyData := (xs.drop (HT.sIx xs.length 0 lo)).take (HT.sIx xs.length xs.length hi - HT.sIx xs.length 0 lo)
theorem rs_list {ds : List PyData} {lo hi : Option Int} (p : P (.list (cutD ds lo hi))) : RS K (rSlice K) env (.list ds) lo hi P := fun B σ G H x Q I rx q => by
  cases rx with
  | lst h1 r1 =>
    refine .inl ⟨_, _, rfl, SqL.of (I.exH _ _ h1), fun p' np => ?_⟩
    have n := I.exH.fresh np
    refine q _ _ _ _ p (Ex.new n) (I.new np) (.lst upd_same (DdAll.ex ?_ (Ex.new n)))
    unfold cutV cutD
    rw [r1.length]
    exact (r1.drop _).take _
theorem rs_tup {ds : List PyData} {lo hi : Option Int} (p : P (.tuple (cutD ds lo hi))) : RS K (rSlice K) env (.tuple ds) lo hi P := fun B σ G H x Q I rx q => by
  cases rx with
  | tup h1 r1 =>
    rename_i a zs
    have rc : DdAll G (cutV zs lo hi) (cutD ds lo hi) := by
      unfold cutV cutD
      rw [r1.length]
      exact (r1.drop _).take _
    refine .inr (.inl ⟨_, _, rfl, SqT.of (I.exH _ _ h1), fun e => ?_, fun _ p' np => ?_⟩)
    · have e' : cutV zs lo hi = zs := by
        unfold cutV
        rw [e.1, e.2]
        show List.take _ (List.drop 0 _) = _
        rw [List.drop_zero, Nat.sub_zero, List.take_length]
      rw [e'] at rc
      exact q _ G H _ p (Ex.refl G) I (.tup h1 rc)
    · have n := I.exH.fresh np
      exact q _ _ _ _ p (Ex.new n) (I.new np) (.tup upd_same (rc.ex (Ex.new n)))
end
end FD

set_option Elab.async false
set_option linter.all false
set_option maxRecDepth 100000
set_option maxHeartbeats 2000000
namespace FD
open PySem PySem.Spec PyProof.Rows L2

section
variable {K : PySem.W.Frag} {env : En} {P : PyData → Prop}
theorem rc_keep {r : List V → Hp → VK → Prop} {ds : List PyData} {f : PyData} (p : P f) (h : ∀ (G H : Hp) (xs : List V) (Q : VK), Ex G H → DdAll G xs ds → (∀ v, Dd G v f → Q v H) → r xs H Q) : RC K r env ds P :=
  fun B σ G H xs Q I rx q => h G H xs Q I.exH rx fun v rv => q v G H f p (Ex.refl G) I rv
theorem DdAll.one {G : Hp} {xs : List V} {d : PyData} (h : DdAll G xs [d]) : ∃ x, xs = [x] ∧ Dd G x d := by
  cases h with
  | cons h1 h2 => cases h2; exact ⟨_, rfl, h1⟩
theorem DdAll.two {G : Hp} {xs : List V} {d e : PyData} (h : DdAll G xs [d, e]) : ∃ x y, xs = [x, y] ∧ Dd G x d ∧ Dd G y e := by
  cases h with
  | cons h1 h2 =>
    obtain ⟨y, rfl, hy⟩ := h2.one
    exact ⟨_, y, rfl, h1, hy⟩
/-! len, all, int, tuple, max, min -/
def rLen (K : PySem.W.Frag) : List V → Hp → VK → Prop := fun xs H Q => ∃ x n, xs = [x] ∧ LenV K x H n ∧ Q (.int n) H
theorem rc_lenL {ds : List PyData} (p : P (.int ds.length)) : RC K (rLen K) env [.list ds] P := rc_keep p fun G H xs Q x1 rx q => by
  obtain ⟨x, rfl, h⟩ := rx.one
  cases h with
  | lst h1 h2 => exact ⟨_, _, rfl, .inl ⟨_, SqL.of (x1 _ _ h1), rfl⟩, by rw [h2.length]; exact q _ (.int _)⟩
theorem rc_lenT {ds : List PyData} (p : P (.int ds.length)) : RC K (rLen K) env [.tuple ds] P := rc_keep p fun G H xs Q x1 rx q => by
  obtain ⟨x, rfl, h⟩ := rx.one
  cases h with
  | tup h1 h2 => exact ⟨_, _, rfl, .inr ⟨_, SqT.of (x1 _ _ h1), rfl⟩, by rw [h2.length]; exact q _ (.int _)⟩
theorem rc_lenS {z : Str} (hl : z.length ≤ sizeLine) (p : P (.int z.length)) : RC K (rLen K) env [.str z] P := rc_keep p fun G H xs Q x1 rx q => by
  obtain ⟨x, rfl, h⟩ := rx.one
  cases h
  exact ⟨_, _, rfl, ⟨hl, rfl⟩, q _ (.int _)⟩
theorem bls_of {G : Hp} : ∀ {xs : List V} {bs : List Bool}, DdAll G xs (bs.map .bool) → xs = bs.map V.bl
  | _, [], h => by cases h; rfl
  | _, b :: bs, h => by
    cases h with
    | cons h1 h2 =>
      cases h1
      rw [List.map_cons, ← bls_of h2]
theorem rc_all {bs : List Bool} (p : P (.bool (bs.all id))) : RC K (rAll K) env [.list (bs.map .bool)] P := rc_keep p fun G H xs Q x1 rx q => by
  obtain ⟨x, rfl, h⟩ := rx.one
  cases h with
  | lst h1 h2 =>
    obtain rfl := bls_of h2
    exact ⟨_, bs, rfl, SqL.of (x1 _ _ h1), q _ (.bl _)⟩
def rInt : List V → Hp → VK → Prop := fun xs H Q => (∃ i, xs = [.int i] ∧ Q (.int i) H) ∨ ∃ k, xs = [.bl k] ∧ Q (.int (if k then 1 else 0)) H
theorem rc_int {i : Int} (p : P (.int i)) : RC K rInt env [.int i] P := rc_keep p fun G H xs Q x1 rx q => by
  obtain ⟨x, rfl, h⟩ := rx.one
  cases h
  exact .inl ⟨i, rfl, q _ (.int _)⟩
theorem rc_intB {b : Bool} (p : P (.int (if b then 1 else 0))) : RC K rInt env [.bool b] P := rc_keep p fun G H xs Q x1 rx q => by
  obtain ⟨x, rfl, h⟩ := rx.one
  cases h
  exact .inr ⟨b, rfl, q _ (.int _)⟩
def rMax2 : List V → Hp → VK → Prop := fun xs H Q => ∃ i j, xs = [.int i, .int j] ∧ Q (.int (if j > i then j else i)) H
def rMin2 : List V → Hp → VK → Prop := fun xs H Q => ∃ i j, xs = [.int i, .int j] ∧ Q (.int (if j < i then j else i)) H
theorem rc_max {i j : Int} (p : P (.int (if j > i then j else i))) : RC K rMax2 env [.int i, .int j] P := rc_keep p fun G H xs Q x1 rx q => by
  obtain ⟨x, y, rfl, h1, h2⟩ := rx.two
  cases h1; cases h2
  exact ⟨i, j, rfl, q _ (.int _)⟩
theorem rc_min {i j : Int} (p : P (.int (if j < i then j else i))) : RC K rMin2 env [.int i, .int j] P := rc_keep p fun G H xs Q x1 rx q => by
  obtain ⟨x, y, rfl, h1, h2⟩ := rx.two
  cases h1; cases h2
  exact ⟨i, j, rfl, q _ (.int _)⟩
def rTuple (K : PySem.W.Frag) : List V → Hp → VK → Prop := fun xs H Q => ∃ p ys, xs = [.ref p] ∧ ((SqL K H p ys ∧ ∀ l, H l = none → Q (.ref l) (upd H l (.tup ys))) ∨ (SqT K H p ys ∧ Q (.ref p) H))
theorem rc_tuple {ds : List PyData} (p : P (.tuple ds)) : RC K (rTuple K) env [.list ds] P := fun B σ G H xs Q I rx q => by
  obtain ⟨x, rfl, h⟩ := rx.one
  cases h with
  | lst h1 h2 =>
    refine ⟨_, _, rfl, .inl ⟨SqL.of (I.exH _ _ h1), fun l nl => ?_⟩⟩
    have n := I.exH.fresh nl
    exact q _ _ _ _ p (Ex.new n) (I.new nl) (.tup upd_same (h2.ex (Ex.new n)))
/-! repr -/
theorem rc_reprN (p : P (.str "None")) : RC K (rRepr K) env [.none] P := rc_keep p fun G H xs Q x1 rx q => by
  obtain ⟨x, rfl, h⟩ := rx.one
  cases h
  exact ⟨_, rfl, .inl ⟨rfl, q _ (.str _)⟩⟩
theorem rc_reprI {i : Int} (hi : i.natAbs.log2 < 1920) (p : P (.str (toString i))) : RC K (rRepr K) env [.int i] P := rc_keep p fun G H xs Q x1 rx q => by
  obtain ⟨x, rfl, h⟩ := rx.one
  cases h
  exact ⟨_, rfl, .inr (.inl ⟨i, rfl, hi, q _ (.str _)⟩)⟩
/-- what repr goes over -/
structure ReprOk (d : PyData) : Prop where
  nd : noDict d = true
  sh : d.showable = true
  hd : d.hasDict = false
  dp : d.depth ≤ 60
  sz : d.shown.length ≤ sizeLine
theorem rc_reprT {ds : List PyData} (o : ReprOk (.tuple ds)) (p : P (.str (PyData.tuple ds).shown)) : RC K (rRepr K) env [.tuple ds] P := rc_keep p fun G H xs Q x1 rx q => by
  obtain ⟨x, rfl, h⟩ := rx.one
  have dp := Dd.dp (K := K) _ _ o.nd (h.ex x1)
  cases h with
  | tup h1 h2 => exact ⟨_, rfl, .inr (.inr ⟨_, _, rfl, dp, o.sh, o.hd, o.dp, o.sz, q _ (.str _)⟩)⟩
theorem rc_reprL {ds : List PyData} (o : ReprOk (.list ds)) (p : P (.str (PyData.list ds).shown)) : RC K (rRepr K) env [.list ds] P := rc_keep p fun G H xs Q x1 rx q => by
  obtain ⟨x, rfl, h⟩ := rx.one
  have dp := Dd.dp (K := K) _ _ o.nd (h.ex x1)
  cases h with
  | lst h1 h2 => exact ⟨_, rfl, .inr (.inr ⟨_, _, rfl, dp, o.sh, o.hd, o.dp, o.sz, q _ (.str _)⟩)⟩
/-! isinstance -/
def tyN : PyData → String
  | .none => "NoneType"
  | .bool _ => "bool"
  | .int _ => "int"
  | .str _ => "str"
  | .list _ => "list"
  | .tuple _ => "tuple"
  | .dict _ => "dict"
theorem Dd.tyx {G H : Hp} {x : V} {d : PyData} (r : Dd G x d) (e : Ex G H) : TyX K H x (.type (tyN d)) := by
  cases r with
  | non => exact .base .non
  | bl b => exact .base (.bl b)
  | int i => exact .base (.int i)
  | str z => exact .base (.str z)
  | lst h1 _ => exact .base (.lst (e _ _ h1))
  | tup h1 _ => exact .base (.tup (e _ _ h1))
  | dct h1 _ => exact .base (.dK (e _ _ h1))
/-- isinstance(d, n) for the four types that are asked -/
def isTy (n : String) (d : PyData) : Bool :=
  match n, d with
  | "int", .int _ => true
  | "int", .bool _ => true
  | "bool", .bool _ => true
  | "str", .str _ => true
  | "tuple", .tuple _ => true
  | "list", .list _ => true
  | _, _ => false
theorem kit_is {d : PyData} {n : String} (h : n = "int" ∨ n = "bool" ∨ n = "str" ∨ n = "tuple" ∨ n = "list") : PySem.W.kitOne K (.type (tyN d)) (.type n) = some (isTy n d) := by
  apply kit_ty
  rcases h with rfl | rfl | rfl | rfl | rfl <;> cases d <;> simp only [tyN] <;> first | (show kitB _ _ = some true; decide +kernel) | (show kitB _ _ = some false; decide +kernel)
theorem ev_isi {te : TE} {n : String} {P : En → PyData → Prop} (hn : n = "int" ∨ n = "bool" ∨ n = "str" ∨ n = "tuple" ∨ n = "list") (h : EvE K te env fun e1 d => P e1 (.bool (isTy n d))) : EvE K (tCB (rIsi K) (tCons te (tCons (tC (.ty n)) tNil))) env P := fun B σ G H Q I q =>
  h B σ G H _ I fun x G1 H1 e1 d p1 x1 I1 r1 => ⟨x, .ty n, _, _, isTy n d, rfl, .ty n, r1.tyx I1.exH, kit_is hn, q _ G1 H1 e1 _ p1 x1 I1 (.bl _)⟩
/-! chains -/
theorem ev_chain {r r' : R2} {ta tb tc : TE} {P : En → PyData → Prop} (h : EvE K ta env fun e1 d1 => EvE K tb e1 fun e2 d2 => RD K r e2 d1 d2 fun f => ∃ k, f = .bool k ∧
    (k = true → EvE K tc e2 fun e3 d3 => RD K r' e3 d2 d3 (P e3)) ∧ (k = false → P e2 (.bool false))) : EvE K (tChain r r' ta tb tc) env P := fun B σ G H Q I q =>
  h B σ G H _ I fun x G1 H1 e1 d1 p1 x1 I1 r1 => p1 B σ G1 H1 _ I1 fun y G2 H2 e2 d2 p2 x2 I2 r2 => p2 B σ G2 H2 x y _ I2 (r1.ex x2) r2 fun v G3 H3 f p3 x3 I3 r3 => by
    obtain ⟨k, rfl, ht, hf⟩ := p3
    cases r3
    refine ⟨k, rfl, ?_⟩
    cases k with
    | true => exact iteT (ht rfl B σ G3 H3 _ I3 fun z G4 H4 e4 d4 p4 x4 I4 r4 => p4 B σ G4 H4 y z Q I4 ((r2.ex x3).ex x4) r4 fun w G5 H5 f5 p5 x5 I5 r5 => q w G5 H5 e4 f5 p5 ((((x1.trans x2).trans x3).trans x4).trans x5) I5 r5)
    | false => exact iteF (q _ G3 H3 e2 _ (hf rfl) ((x1.trans x2).trans x3) I3 (.bl _))
/-! a list of one's own -/
variable {O : Outs}
theorem es_own {i : Nat} (h : ∀ p : Addr, O.nx (env.set i (some (.own p [])))) : EvS K (tAsg (tLst tNil) (gName i)) env O := fun B σ G H D I a b c d f => by
  refine ⟨Nat.zero_le _, fun p np => ?_⟩
  have I2 : EnvOk K B G (upd H p (.lst [])) σ env := by
    refine ⟨I.exH.trans (Ex.new np), I.exG, fun q u hq hm => Ex.new np _ _ (I.keep q u hq hm), I.nog, fun q u hq => ?_, I.mus, I.len, fun j s e => ?_, I.mine, I.inj⟩
    · obtain ⟨w, hw⟩ := I.there q u hq
      exact ⟨w, Ex.new np _ _ hw⟩
    · obtain ⟨v, h1, h2⟩ := I.sl j s e
      exact ⟨v, h1, h2.ex (Ex.refl _) (fun q hq => (h2.has hq).2.1) fun q u hq hu => Ex.new np _ _ hu⟩
  have bp : B.H p = none := by
    cases z : B.H p with
    | none => rfl
    | some o => obtain ⟨u, hu⟩ := I.there p o z; rw [np] at hu; cases hu
  refine a _ G _ _ (h p) (Ex.refl G) (I2.setO (s := .own p []) ⟨rfl, I.exH.fresh np, [], upd_same, .nil⟩ rfl bp fun j t e z => ?_)
  obtain ⟨v, _, h2⟩ := I.sl j t e
  obtain ⟨_, _, o, ho⟩ := h2.has z
  rw [np] at ho; cases ho
theorem es_append {i : Nat} {te : TE} {p : Addr} {ds0 : List PyData} (h0 : env[i]? = some (some (.own p ds0)))
    (h : EvE K te env fun e1 d => ∃ ds, e1[i]? = some (some (.own p ds)) ∧ ds.length < sizeLine ∧ O.nx (e1.set i (some (.own p (ds ++ [d]))))) : EvS K (tDrop (tBM K "list" rAppend (tVar i) (tCons te tNil))) env O := fun B σ G H D I a b c d f => by
  obtain ⟨v0, hv0, rfl, g0, xs0, hx0, r0⟩ := I.sl i _ h0
  refine ⟨_, hv0, .inl ⟨rfl, _, SqL.of hx0⟩, ?_⟩
  refine h B σ G H _ I fun y G1 H1 e1 d1 p1 x1 I1 r1 => ?_
  obtain ⟨ds, he, hl, hn⟩ := p1
  obtain ⟨v1, hv1, rfl, g1, xs1, hx1, r2⟩ := I1.sl i _ he
  refine ⟨p, xs1, y, rfl, rfl, hx1, by rw [r2.length]; exact hl, ?_⟩
  refine a σ G1 _ _ hn x1 (I1.put he rfl rfl rfl ⟨rfl, g1, _, upd_same, r2.append (.cons r1 .nil)⟩)
/-- a list of one's own, read: from now on it stays -/
theorem ev_own {i : Nat} {p : Addr} {ds : List PyData} {P : En → PyData → Prop} (h : env[i]? = some (some (.own p ds))) (q : P (env.set i (some (.dat (.list ds)))) (.list ds)) : EvE K (tVar i) env P := fun B σ G H Q I k => by
  obtain ⟨v, hv, rfl, g, xs, hx, r⟩ := I.sl i _ h
  have bp : B.H p = none := by
    rcases I.mine i _ p h rfl with m | m
    · exact m
    · cases m.2
  have I2 := (I.forget i).freeze hx g (fun j s e a => by
    by_cases z : i = j
    · subst z
      by_cases q : i < env.length
      · rw [List.getElem?_set_self q] at e; cases e
      · rw [List.getElem?_eq_none (by omega)] at h; cases h
    · rw [List.getElem?_set_ne z] at e; exact z (I.inj _ _ _ _ _ h e rfl a)) bp
  have rd : Dd (upd G p (.lst xs)) (.ref p) (.list ds) := .lst upd_same (r.ex (Ex.new g))
  have I3 := I2.tell hv rd
  rw [List.set_set] at I3
  exact ⟨_, hv, k _ _ H _ _ q (Ex.new g) I3 rd⟩
end
end FD

set_option Elab.async false
set_option linter.all false
set_option maxRecDepth 100000
set_option maxHeartbeats 2000000
namespace FD
open PySem PySem.Spec PyProof.Rows L2

/-! ### a def's promise where no repr is under way around it -/
section
variable (P : Program) (w : World) (K : PySem.W.Frag) (mg : Str → Option Value) (base : Heap)
structure FnG (k : Nat) (f : Addr) (fd : FuncData) (ps : List Str) (sp : Sp) : Prop where
  len : ∀ vs H Q E, sp vs H Q E → vs.length = ps.length
  run : ∀ (A : Around) (outer : List PySem.Env) (s : Shared) (H : Hp) (args : Args) (us : List Value) (vs : List V) (Q : VK), A.guards = some [] → Room k A → Env0 P w K mg base A outer s H →
    BindsTo s fd args (ps.zip us) → Vals vs us → sp vs H Q E0 → codeAny (model P w) A (.call (.ref f) args) (fun r s' => ∃ u, r = .ok (.ret u) ∧ CE outer P w H s Q u s') s
/-- a def that can be called by its name -/
structure Cal (k : Nat) (x : Str) (ps : List Str) (sp : Sp) : Prop where
  ex : ∃ f fd, FnG P w K mg base k f fd ps sp ∧ mg x = some (.ref f) ∧ PySem.W.keepIn K (.ref f) = true ∧ Binds K fd ps []
end
section
variable {P : Program} {w : World} {K : PySem.W.Frag} {mg : Str → Option Value} {base : Heap}
theorem fnG_of {x qual : Str} {st : Stmt} {f : Addr} {fd : FuncData} {N ps : List Str} {k : Nat} {sp : Sp} (F : L2.Fun K x qual st f fd) (S : FnScope N ps (defScope st)) (len : ∀ vs H Q E, sp vs H Q E → vs.length = ps.length)
    (hb : ∀ (cdv : Value) (A : Around) (outer : List PySem.Env) (s : Shared) (H : Hp) (vs : List V) (Q : VK), A.guards = some [] → Room k (A.deeper (envOfC qual (defScope st) s.heap.objs.size f cdv)) → sp vs H Q E0 →
      ∃ t, PSs (cxOf CX0 P w K mg base N qual (defScope st) f cdv A outer s H E0).nox (defBody st) t ∧ t { nx := fun _ H' => Q .non H', rt := Q } (start N vs) H) : FnG P w K mg base (k + 1) f fd ps sp := by
  obtain ⟨oc, od, kV, doc, pm, an, cdv, ct, osl, rfl, lk, hcd⟩ := F.ex
  refine ⟨len, fun A outer s H args us vs Q hg room e0 bd rel hsp => ?_⟩
  have hln := len _ _ _ _ hsp
  have kin : K.In s.heap := e0.mod.kin.keeps fun b o z => (e0.bs b o z).1
  have nl : s.heap.NoLimit := e0.mod.nolimit.keeps fun b o z => (e0.bs b o z).1
  have kinds : ∀ z ∈ ps.zip us, (defScope st).names.lookup z.1 = some .local ∨ ((defScope st).names.lookup z.1 = some .cell ∧ ((cellsFrom (s.heap.objs.size + 1) (defScope st).names []).lookup z.1).isSome = true) := by
    rintro ⟨m, v⟩ hz
    rcases S.par m (List.of_mem_zip hz).1 with q | q
    · exact .inl q
    · exact .inr ⟨q, PySem.W.cellsFrom_some _ _ _ (.inl q)⟩
  refine codeAny_call_function room.depth (kin _ _ lk) rfl S.co S.gen rfl (PySem.W.codeRec_of kin hcd) (bd _ _ _ _ ?_)
  refine wpAny_newFunctionEnv_cells S.kind kinds fun env henv s1 hx => ?_
  subst henv
  refine ⟨nl.keeps hx.toInCall.keep, codeAny_func ?_⟩
  obtain ⟨t, ht, hq⟩ := hb cdv A outer s H vs Q hg (room.deeper _) hsp
  have J : Inv (cxOf CX0 P w K mg base N qual (defScope st) f cdv A outer s H E0) [] (start N vs) H s1 := inv_start S room.hd e0 hln rel hx
  refine wpAny_mono (ht.nox.run [] s1 (start N vs) H _ J hq) (fun fl s2 h2 => ?_) fun e s2 h2 => ?_
  · cases fl with
    | ret u =>
      obtain ⟨v, σ', H', J', rv, q⟩ := h2
      exact ⟨u, rfl, v, H', J'.os, J'.bare, J'.base, J'.hok, rv, q⟩
    | next =>
      obtain ⟨σ', H', J', q⟩ := h2
      exact ⟨Value.none, rfl, .non, H', J'.os, J'.bare, J'.base, J'.hok, rfl, q⟩
    | brk => obtain ⟨_, _, _, q⟩ := h2; exact q.elim
    | cont => obtain ⟨_, _, _, q⟩ := h2; exact q.elim
  · exact wpAny_mono h2 (fun _ _ z => False.elim z) fun _ _ z => False.elim z
/-- a level more -/
theorem FnG.mono {j k : Nat} {f : Addr} {fd : FuncData} {ps : List Str} {sp : Sp} (F : FnG P w K mg base j f fd ps sp) (h : j ≤ k) : FnG P w K mg base k f fd ps sp :=
  ⟨F.len, fun A outer s H args us vs Q hg hr => F.run A outer s H args us vs Q hg (hr.mono h)⟩
end
/-- a call of a def that promises sp -/
def callOf (sp : Sp) : List V → Hp → VK → Prop := fun vs H Q => sp vs H Q E0
/-! ### calls -/
section
variable {X : Cx} {k : Nat} {ps : List Str} {sp : Sp} {x : Str} {p pos : Pos} {e : Expr} {es : List Expr} {t : TA}
theorem runG {f : Addr} {fd : FuncData} {pins : List (Addr × Obj)} {σ : L2.St} {H : Hp} {s : Shared} {Q : VK} {us : List Value} {vs : List V} (F : FnG X.prog X.w X.K X.mg X.base k f fd ps sp) (hg : X.A.guards = some []) (hr : Room k X.A) (hb : Binds X.K fd ps [])
    (I : Inv X pins σ H s) (r : Vals vs us) (h : sp vs H Q E0) : wpAny (model X.prog X.w) X.A (call (.ref f) us) (EP X pins σ Q) X.xe s := by
  have hl : (us ++ []).length = ps.length := by rw [List.append_nil, ← r.length]; exact F.len _ _ _ _ h
  have bd := hb s us I.kIn hl
  rw [List.append_nil] at bd
  refine wpAny_call (codeAny_mono (F.run X.A X.stack s H ⟨us, []⟩ us vs Q hg hr I.env0 bd r h) fun rr s' hq => ?_)
  obtain ⟨u, rfl, hc⟩ := hq
  exact I.after hc
theorem pe_cal (C : Cal X.prog X.w X.K X.mg X.base k x ps sp) (hg : X.A.guards = some []) (hr : Room k X.A) (hx : Gl X x) (ha : PA X (e :: es) t) (hdb : (x == ("__debug__" : Str)) = false := by decide)
    (he : starEach (e :: es) X.env = (false, eval e X.env) :: starEach es X.env := by rfl) (hpl : (backTo pos (starEach es X.env)).any (·.1) = false := by rfl) :
    PE X (.Call (.Name x p) (e :: es) [] pos) (tCB (callOf sp) t) := by
  obtain ⟨f, fd, F, hm, hk, hb⟩ := C.ex
  refine ⟨fun pins s σ H Q J h => wpAny_Call_Name_kw (ld_glob J hx hm ?_ hdb)⟩
  exact PySem.W.callWith_K (h₀ := X.base) J.ok.mod.kin hk (thn (ha.run pos pins s σ H _ J h) fun us s1 ⟨vs, H1, J1, r, q⟩ => ⟨J1.kIn, runG F hg hr hb J1 r q⟩) he hpl
theorem pe_cal0 (C : Cal X.prog X.w X.K X.mg X.base k x ps sp) (hg : X.A.guards = some []) (hr : Room k X.A) (hx : Gl X x) (hdb : (x == ("__debug__" : Str)) = false := by decide) :
    PE X (.Call (.Name x p) [] [] pos) (tCB (callOf sp) tNil) := by
  obtain ⟨f, fd, F, hm, hk, hb⟩ := C.ex
  refine ⟨fun pins s σ H Q J h => wpAny_Call_Name_kw (ld_glob J hx hm ?_ hdb)⟩
  exact PySem.W.callWith_K0 J.kIn hk (runG (us := []) F hg hr hb J .nil h)
end
/-! ### promises over data -/
/-- from data to data; all that was known stays -/
def spD (n : Nat) (pre : List PyData → Prop) (post : List PyData → PyData → Prop) : Sp := fun vs H Q _ => ∃ (G : Hp) (ds : List PyData), Ex G H ∧ DdAll G vs ds ∧ ds.length = n ∧ pre ds ∧
  ∀ v G' H' d, post ds d → Ex G G' → Ex G' H' → Ex H H' → (∀ q o, H q = some o → G q = none → G' q = none) → Dd G' v d → Q v H'
/-- the first argument is the pile, which changes -/
def spP (n : Nat) (pre : List PyData → Prop) (post : List PyData → PyData → Prop) : Sp := fun vs H Q _ => ∃ (G : Hp) (ds : List PyData) (p : Addr) (rest : List V), vs = .ref p :: rest ∧ Ex G H ∧ G p = none ∧ PileAt H p ∧ DdAll G rest ds ∧ ds.length = n ∧ pre ds ∧
  ∀ v G' H' d, post ds d → Ex G G' → Ex G' H' → (∀ q o, H q = some o → q ≠ p → H' q = some o) → G' p = none → PileAt H' p → (∀ q o, H q = some o → G q = none → G' q = none) → Dd G' v d → Q v H'
/-- the first argument is the script; a new pile comes -/
def spN (K : PySem.W.Frag) : Sp := fun vs H Q _ => ∃ (G : Hp) (p : Addr) (ns : List Int) (k : Int), vs = [.ref p, .int k] ∧ Ex G H ∧ SqL K G p (ns.map V.int) ∧ ns.length ≤ 63 ∧ 0 ≤ k ∧
  ∀ q G' H', Ex G G' → Ex G' H' → Ex H H' → (∀ q o, H q = some o → G q = none → G' q = none) → H q = none → G' q = none → PileAt H' q → Q (.ref q) H'
section
variable {K : PySem.W.Frag} {env : En} {P : En → PyData → Prop} {ta : TA} {pre : List PyData → Prop} {post : List PyData → PyData → Prop} {n : Nat} {O : Outs}
/-- behind a call that leaves all as it was -/
theorem EnvOk.went {B : Bs} {G H G' H' : Hp} {σ : L2.St} (I : EnvOk K B G H σ env) (x1 : Ex G G') (x2 : Ex G' H') (x3 : Ex H H') (fr : ∀ q o, H q = some o → G q = none → G' q = none) : EnvOk K B G' H' σ env :=
  ⟨x2, I.exG.trans x1, fun q o a b => x3 _ _ (I.keep q o a b), fun q o a b => by obtain ⟨u, hu⟩ := I.there q o a; exact fr q u hu (I.nog q o a b), fun q o a => by obtain ⟨u, hu⟩ := I.there q o a; exact ⟨u, x3 _ _ hu⟩, I.mus, I.len,
    fun i s e => by
      obtain ⟨v, h1, h2⟩ := I.sl i s e
      exact ⟨v, h1, h2.ex x1 (fun p hp => by obtain ⟨_, g, o, ho⟩ := h2.has hp; exact fr p o ho g) fun p o _ ho => x3 _ _ ho⟩, I.mine, I.inj⟩
theorem ev_call (h : EvAs K ta env fun e1 ds => ds.length = n ∧ pre ds ∧ ∀ d, post ds d → P e1 d) : EvE K (tCB (callOf (spD n pre post)) ta) env P := fun B σ G H Q I q =>
  h B σ G H _ I fun vs G1 H1 e1 ds p1 x1 I1 r1 => ⟨G1, ds, I1.exH, r1, p1.1, p1.2.1, fun v G2 H2 d pd x2 x3 x4 fr rd => q v G2 H2 e1 d (p1.2.2 d pd) (x1.trans x2) (I1.went x2 x3 x4 fr) rd⟩
/-- behind a call that changed the pile -/
theorem EnvOk.wentP {B : Bs} {G H G' H' : Hp} {σ : L2.St} {i : Nat} {p : Addr} (I : EnvOk K B G H σ env) (hi : env[i]? = some (some (.pile p))) (x1 : Ex G G') (x2 : Ex G' H') (x3 : ∀ q o, H q = some o → q ≠ p → H' q = some o) (gp : G' p = none) (pl : PileAt H' p)
    (fr : ∀ q o, H q = some o → G q = none → G' q = none) : EnvOk K B G' H' σ env := by
  have th : ∀ q o, H q = some o → ∃ u, H' q = some u := fun q o a => by
    by_cases z : q = p
    · subst z; obtain ⟨a, b, c, e⟩ := pl; exact ⟨_, e⟩
    · exact ⟨o, x3 q o a z⟩
  refine ⟨x2, I.exG.trans x1, fun q o a b => x3 _ _ (I.keep q o a b) fun z => ?_, fun q o a b => by obtain ⟨u, hu⟩ := I.there q o a; exact fr q u hu (I.nog q o a b), fun q o a => by obtain ⟨u, hu⟩ := I.there q o a; exact th q u hu, I.mus, I.len,
    fun j s e => ?_, I.mine, I.inj⟩
  · subst z
    rcases I.mine i _ q hi rfl with m | m
    · rw [m] at a; cases a
    · exact b m.1
  · obtain ⟨v, h1, h2⟩ := I.sl j s e
    refine ⟨v, h1, ?_⟩
    by_cases z : i = j
    · subst z
      rw [hi] at e
      cases e
      exact ⟨h2.1, gp, pl⟩
    · exact h2.ex x1 (fun r hr => by obtain ⟨_, g, o, ho⟩ := h2.has hr; exact fr r o ho g) fun r o hr ho => x3 r o ho fun w => z (I.inj _ _ _ _ _ hi e rfl (w ▸ hr))
theorem ev_callP {i : Nat} {p : Addr} (hi : env[i]? = some (some (.pile p))) (h : EvAs K ta env fun e1 ds => e1[i]? = some (some (.pile p)) ∧ ds.length = n ∧ pre ds ∧ ∀ d, post ds d → P e1 d) :
    EvE K (tCB (callOf (spP n pre post)) (tCons (tVar i) ta)) env P := fun B σ G H Q I q => by
  obtain ⟨v, h1, rfl, g1, pl⟩ := I.sl i _ hi
  refine ⟨_, h1, ?_⟩
  refine h B σ G H _ I fun vs G1 H1 e1 ds p1 x1 I1 r1 => ?_
  obtain ⟨v2, h2, e2, g2, pl2⟩ := I1.sl i _ p1.1
  exact ⟨G1, ds, p, vs, rfl, I1.exH, g2, pl2, r1, p1.2.1, p1.2.2.1, fun v G2 H2 d pd x2 x3 x4 gp pl fr rd => q v G2 H2 e1 d (p1.2.2.2 d pd) (x1.trans x2) (I1.wentP p1.1 x2 x3 x4 gp pl fr) rd⟩
/-- pile = .. (a new one) -/
theorem es_pile {i j : Nat} {p : Addr} {ns : List Int} {te : TE} (hi : env[i]? = some (some (.script p ns))) (hl : ns.length ≤ 63) (hk : EvE K te env fun e1 d => e1 = env ∧ ∃ k : Int, d = .int k ∧ 0 ≤ k) (h : ∀ q : Addr, O.nx (env.set j (some (.pile q)))) :
    EvS K (tAsg (tCB (callOf (spN K)) (tCons (tVar i) (tCons te tNil))) (gName j)) env O := fun B σ G H D I a b c d f => by
  obtain ⟨v, h1, rfl, g1⟩ := I.sl i _ hi
  refine ⟨_, h1, ?_⟩
  refine hk B σ G H _ I fun y G1 H1 e1 d1 p1 x1 I1 r1 => ?_
  obtain ⟨rfl, k, rfl, k0⟩ := p1
  cases r1
  refine ⟨G1, p, ns, k, rfl, I1.exH, SqL.ex g1 x1, hl, k0, fun q G2 H2 x2 x3 x4 fr nq gq pl => ?_⟩
  have I2 := I1.went x2 x3 x4 fr
  have bq : B.H q = none := by
    cases z : B.H q with
    | none => rfl
    | some o => obtain ⟨u, hu⟩ := I1.there q o z; rw [nq] at hu; cases hu
  refine a _ G2 H2 _ (h q) (x1.trans x2) (I2.setO (s := .pile q) ⟨rfl, gq, pl⟩ rfl bq fun m t e z => ?_)
  obtain ⟨_, _, hs⟩ := I1.sl m t e
  obtain ⟨_, _, o, ho⟩ := hs.has z
  rw [nq] at ho; cases ho
/-- return [a, b, c], the new pile -/
theorem es_retN (h : EvAs K ta env fun e1 ds => (∃ a b c : Int, ds = [.int a, .int b, .int c]) ∧ O.rn e1) : EvS K (tRet (tLst ta)) env O := fun B σ G H D I a b c d f =>
  h B σ G H _ I fun vs G1 H1 e1 ds p1 x1 I1 r1 => by
    obtain ⟨⟨i, j, k, rfl⟩, hn⟩ := p1
    cases r1 with
    | cons r1 r2 =>
      cases r1
      cases r2 with
      | cons r2 r3 =>
        cases r2
        obtain ⟨z, rfl, r4⟩ := r3.one
        cases r4
        refine ⟨by show 3 ≤ sizeLine; decide, fun p np => ?_⟩
        have bp : B.H p = none := by
          cases z : B.H p with
          | none => rfl
          | some o => obtain ⟨u, hu⟩ := I1.there p o z; rw [np] at hu; cases hu
        refine f p σ G1 _ e1 hn x1 ?_ (I1.exH.fresh np) ⟨i, j, k, upd_same⟩ bp
        refine ⟨I1.exH.trans (Ex.new np), I1.exG, fun q u hq hm => Ex.new np _ _ (I1.keep q u hq hm), I1.nog, fun q u hq => ?_, I1.mus, I1.len, fun j s e => ?_, I1.mine, I1.inj⟩
        · obtain ⟨w, hw⟩ := I1.there q u hq
          exact ⟨w, Ex.new np _ _ hw⟩
        · obtain ⟨v, h1, h2⟩ := I1.sl j s e
          exact ⟨v, h1, h2.ex (Ex.refl _) (fun q hq => (h2.has hq).2.1) fun q u _ hu => Ex.new np _ _ hu⟩
end
end FD

set_option Elab.async false
set_option linter.all false
set_option maxRecDepth 100000
set_option maxHeartbeats 2000000
namespace FD
open PySem PySem.Spec PyProof.Rows L2

/-- the slots at a def's entry -/
def stD (n : Nat) (ds : List PyData) : En := ds.map (fun d => some (.dat d)) ++ List.replicate (n - ds.length) none
theorem stD_get {n : Nat} {ds : List PyData} {i : Nat} {s : Sl} (h : (stD n ds)[i]? = some (some s)) : ∃ d, ds[i]? = some d ∧ s = .dat d := by
  unfold stD at h
  by_cases q : i < ds.length
  · rw [List.getElem?_append_left (by simpa using q), List.getElem?_map, List.getElem?_eq_getElem q] at h
    cases h
    exact ⟨_, List.getElem?_eq_getElem q, rfl⟩
  · rw [List.getElem?_append_right (by simpa using q), List.getElem?_replicate] at h
    split at h <;> cases h
theorem start_get {N : List Str} {vs : List V} {i : Nat} {v : V} (h : vs[i]? = some v) : (start N vs)[i]? = some (some v) := by
  have q : i < vs.length := (List.getElem?_eq_some_iff.mp h).1
  unfold L2.start
  rw [List.getElem?_append_left (by simpa using q), List.getElem?_map, h]
  rfl
theorem start_len {N : List Str} {vs : List V} : (start N vs).length = vs.length + (N.length - vs.length) := by
  unfold L2.start; simp
theorem stD_len {n : Nat} {ds : List PyData} : (stD n ds).length = ds.length + (n - ds.length) := by
  unfold stD; simp
section
variable {P : Program} {w : World} {K : PySem.W.Frag} {mg : Str → Option Value} {base : Heap} {x qual : Str} {st : Stmt} {f : Addr} {fd : FuncData} {N ps : List Str} {k : Nat}
theorem startD {G H : Hp} {vs : List V} {ds : List PyData} (e : Ex G H) (r : DdAll G vs ds) : EnvOk K ⟨H, G, fun _ => False⟩ G H (start N vs) (stD N.length ds) := by
  refine ⟨e, Ex.refl G, fun _ _ a _ => a, fun _ _ _ a => a, fun _ o a => ⟨o, a⟩, fun _ z => z.elim, ?_, fun i s h => ?_, fun i s p h a => ?_, fun i j s t p h1 h2 a1 a2 => ?_⟩
  · rw [start_len, stD_len, r.length]
  · obtain ⟨d, hd, rfl⟩ := stD_get h
    obtain ⟨v, hv, rv⟩ := r.get hd
    exact ⟨v, start_get hv, rv⟩
  · obtain ⟨d, _, rfl⟩ := stD_get h
    cases a
  · obtain ⟨d, _, rfl⟩ := stD_get h1
    cases a1
/-- a def from data to data -/
theorem fnD (F : L2.Fun K x qual st f fd) (S : FnScope N ps (defScope st)) (pre : List PyData → Prop) (post : List PyData → PyData → Prop)
    (hb : ∀ (cdv : Value) (A : Around) (outer : List PySem.Env) (s : Shared) (H : Hp), A.guards = some [] → Room k (A.deeper (envOfC qual (defScope st) s.heap.objs.size f cdv)) →
      ∃ t, PSs (cxOf CX0 P w K mg base N qual (defScope st) f cdv A outer s H E0).nox (defBody st) t ∧
        ∀ ds : List PyData, ds.length = ps.length → pre ds → EvS K t (stD N.length ds) { nx := fun _ => post ds .none, rt := fun _ d => post ds d }) : FnG P w K mg base (k + 1) f fd ps (spD ps.length pre post) := by
  refine fnG_of F S (fun vs H Q E ⟨G, ds, _, r, hl, _⟩ => r.length.trans hl) fun cdv A outer s H vs Q hg hr ⟨G, ds, e, r, hl, hp, q⟩ => ?_
  obtain ⟨t, ht, ev⟩ := hb cdv A outer s H hg hr
  refine ⟨t, ht, ev ds hl hp _ _ G H _ (startD e r) (fun σ' G' H' env' p x' I => ?_) (fun v G' H' σ' env' d p x' I rd => ?_) (fun _ _ _ _ z => z.elim) (fun _ _ _ _ z => z.elim) (fun _ _ _ _ _ z => z.elim)⟩
  · exact q .non G' H' .none p x' I.exH (fun a o h => I.keep a o h fun z => z) (fun a o h g => I.nog a o h g) .non
  · exact q v G' H' d p x' I.exH (fun a o h => I.keep a o h fun z => z) (fun a o h g => I.nog a o h g) rd
theorem startP {G H : Hp} {p : Addr} {vs : List V} {ds : List PyData} (e : Ex G H) (g : G p = none) (pl : PileAt H p) (r : DdAll G vs ds) : EnvOk K ⟨H, G, fun q => q = p⟩ G H (start N (.ref p :: vs)) (some (.pile p) :: stD (N.length - 1) ds) := by
  have hs : ∀ (i : Nat) (s : Sl), (some (Sl.pile p) :: stD (N.length - 1) ds)[i]? = some (some s) → (i = 0 ∧ s = .pile p) ∨ ∃ j d, i = j + 1 ∧ ds[j]? = some d ∧ s = .dat d := fun i s h => by
    cases i with
    | zero => rw [List.getElem?_cons_zero] at h; cases h; exact .inl ⟨rfl, rfl⟩
    | succ j =>
      rw [List.getElem?_cons_succ] at h
      obtain ⟨d, hd, rfl⟩ := stD_get h
      exact .inr ⟨j, d, rfl, hd, rfl⟩
  refine ⟨e, Ex.refl G, fun _ _ a _ => a, fun _ _ _ a => a, fun _ o a => ⟨o, a⟩, fun q z => ?_, ?_, fun i s h => ?_, fun i s q h a => ?_, fun i j s t q h1 h2 a1 a2 => ?_⟩
  · obtain rfl : q = p := z
    obtain ⟨a, b, c, z⟩ := pl
    exact ⟨_, z⟩
  · rw [start_len, List.length_cons, List.length_cons, stD_len, r.length]; omega
  · rcases hs i s h with ⟨rfl, rfl⟩ | ⟨j, d, rfl, hd, rfl⟩
    · exact ⟨.ref p, rfl, rfl, g, pl⟩
    · obtain ⟨v, hv, rv⟩ := r.get hd
      exact ⟨v, start_get (by rw [List.getElem?_cons_succ]; exact hv), rv⟩
  · rcases hs i s h with ⟨rfl, rfl⟩ | ⟨j, d, rfl, hd, rfl⟩
    · cases a; exact .inr ⟨rfl, rfl⟩
    · cases a
  · rcases hs i s h1 with ⟨rfl, rfl⟩ | ⟨_, _, _, _, rfl⟩
    · rcases hs j t h2 with ⟨rfl, rfl⟩ | ⟨_, _, _, _, rfl⟩
      · rfl
      · cases a2
    · cases a1
/-- a def whose first argument is the pile -/
theorem fnP (F : L2.Fun K x qual st f fd) (S : FnScope N ps (defScope st)) (hps : ps ≠ []) (pre : List PyData → Prop) (post : List PyData → PyData → Prop)
    (hb : ∀ (cdv : Value) (A : Around) (outer : List PySem.Env) (s : Shared) (H : Hp), A.guards = some [] → Room k (A.deeper (envOfC qual (defScope st) s.heap.objs.size f cdv)) →
      ∃ t, PSs (cxOf CX0 P w K mg base N qual (defScope st) f cdv A outer s H E0).nox (defBody st) t ∧
        ∀ (p : Addr) (ds : List PyData), ds.length = ps.length - 1 → pre ds → EvS K t (some (.pile p) :: stD (N.length - 1) ds) { nx := fun _ => False, rt := fun e d => e[0]? = some (some (.pile p)) ∧ post ds d }) :
    FnG P w K mg base (k + 1) f fd ps (spP (ps.length - 1) pre post) := by
  refine fnG_of F S (fun vs H Q E ⟨G, ds, p, rest, hv, _, _, _, r, hl, _⟩ => ?_) fun cdv A outer s H vs Q hg hr ⟨G, ds, p, rest, hv, e, g, pl, r, hl, hp, q⟩ => ?_
  · rw [hv, List.length_cons, r.length, hl]
    cases ps with
    | nil => exact absurd rfl hps
    | cons a b => simp
  · subst hv
    obtain ⟨t, ht, ev⟩ := hb cdv A outer s H hg hr
    refine ⟨t, ht, ev p ds hl hp _ _ G H _ (startP e g pl r) (fun _ _ _ _ z => z.elim) (fun v G' H' σ' env' d pq x' I rd => ?_) (fun _ _ _ _ z => z.elim) (fun _ _ _ _ z => z.elim) (fun _ _ _ _ _ z => z.elim)⟩
    obtain ⟨v0, _, hs⟩ := I.sl 0 _ pq.1
    exact q v G' H' d pq.2 x' I.exH (fun a o h n => I.keep a o h n) hs.2.1 hs.2.2 (fun a o h g => I.nog a o h g) rd
theorem startN {G H : Hp} {p : Addr} {ns : List Int} {vs : List V} {ds : List PyData} (e : Ex G H) (g : SqL K G p (ns.map V.int)) (r : DdAll G vs ds) : EnvOk K ⟨H, G, fun _ => False⟩ G H (start N (.ref p :: vs)) (some (.script p ns) :: stD (N.length - 1) ds) := by
  have hs : ∀ (i : Nat) (s : Sl), (some (Sl.script p ns) :: stD (N.length - 1) ds)[i]? = some (some s) → (i = 0 ∧ s = .script p ns) ∨ ∃ j d, i = j + 1 ∧ ds[j]? = some d ∧ s = .dat d := fun i s h => by
    cases i with
    | zero => rw [List.getElem?_cons_zero] at h; cases h; exact .inl ⟨rfl, rfl⟩
    | succ j =>
      rw [List.getElem?_cons_succ] at h
      obtain ⟨d, hd, rfl⟩ := stD_get h
      exact .inr ⟨j, d, rfl, hd, rfl⟩
  refine ⟨e, Ex.refl G, fun _ _ a _ => a, fun _ _ _ a => a, fun _ o a => ⟨o, a⟩, fun _ z => z.elim, ?_, fun i s h => ?_, fun i s q h a => ?_, fun i j s t q h1 h2 a1 a2 => ?_⟩
  · rw [start_len, List.length_cons, List.length_cons, stD_len, r.length]; omega
  · rcases hs i s h with ⟨rfl, rfl⟩ | ⟨j, d, rfl, hd, rfl⟩
    · exact ⟨.ref p, rfl, rfl, g⟩
    · obtain ⟨v, hv, rv⟩ := r.get hd
      exact ⟨v, start_get (by rw [List.getElem?_cons_succ]; exact hv), rv⟩
  · rcases hs i s h with ⟨rfl, rfl⟩ | ⟨j, d, rfl, hd, rfl⟩ <;> cases a
  · rcases hs i s h1 with ⟨rfl, rfl⟩ | ⟨_, _, _, _, rfl⟩ <;> cases a1
/-- the def that makes the pile -/
theorem fnN (F : L2.Fun K x qual st f fd) (S : FnScope N ps (defScope st)) (hps : ps.length = 2)
    (hb : ∀ (cdv : Value) (A : Around) (outer : List PySem.Env) (s : Shared) (H : Hp), A.guards = some [] → Room k (A.deeper (envOfC qual (defScope st) s.heap.objs.size f cdv)) →
      ∃ t, PSs (cxOf CX0 P w K mg base N qual (defScope st) f cdv A outer s H E0).nox (defBody st) t ∧
        ∀ (p : Addr) (ns : List Int) (j : Int), ns.length ≤ 63 → 0 ≤ j → EvS K t (some (.script p ns) :: stD (N.length - 1) [.int j]) { nx := fun _ => False, rn := fun _ => True }) : FnG P w K mg base (k + 1) f fd ps (spN K) := by
  refine fnG_of F S (fun vs H Q E ⟨G, p, ns, j, hv, _⟩ => by rw [hv, hps]; rfl) fun cdv A outer s H vs Q hg hr ⟨G, p, ns, j, hv, e, g, hl, hj, q⟩ => ?_
  subst hv
  obtain ⟨t, ht, ev⟩ := hb cdv A outer s H hg hr
  refine ⟨t, ht, ev p ns j hl hj _ _ G H _ (startN e g (.cons (.int j) .nil)) (fun _ _ _ _ z => z.elim) (fun _ _ _ _ _ _ z => z.elim) (fun _ _ _ _ z => z.elim) (fun _ _ _ _ z => z.elim) (fun a σ' G' H' env' _ x' I ga pa ba => ?_)⟩
  exact q a G' H' x' I.exH (fun a o h => I.keep a o h fun z => z) (fun a o h g => I.nog a o h g) ba ga pa
/-- the law -/
def spL (K : PySem.W.Frag) : Sp := fun vs H Q _ => ∃ (p : Addr) (ns : List Int), vs = [.ref p] ∧ SqL K H p (ns.map V.int) ∧ ns.length ≤ 63 ∧ ∀ H', Q (.bl true) H'
theorem fnL (F : L2.Fun K x qual st f fd) (S : FnScope N ps (defScope st)) (hps : ps.length = 1)
    (hb : ∀ (cdv : Value) (A : Around) (outer : List PySem.Env) (s : Shared) (H : Hp), A.guards = some [] → Room k (A.deeper (envOfC qual (defScope st) s.heap.objs.size f cdv)) →
      ∃ t, PSs (cxOf CX0 P w K mg base N qual (defScope st) f cdv A outer s H E0).nox (defBody st) t ∧
        ∀ (p : Addr) (ns : List Int), ns.length ≤ 63 → EvS K t (some (.script p ns) :: stD (N.length - 1) []) { nx := fun _ => False, rt := fun _ d => d = .bool true }) : FnG P w K mg base (k + 1) f fd ps (spL K) := by
  refine fnG_of F S (fun vs H Q E ⟨p, ns, hv, _⟩ => by rw [hv, hps]; rfl) fun cdv A outer s H vs Q hg hr ⟨p, ns, hv, g, hl, q⟩ => ?_
  subst hv
  obtain ⟨t, ht, ev⟩ := hb cdv A outer s H hg hr
  refine ⟨t, ht, ev p ns hl _ _ H H _ (startN (Ex.refl H) g .nil) (fun _ _ _ _ z => z.elim) (fun v G' H' σ' env' d pd x' I rd => ?_) (fun _ _ _ _ z => z.elim) (fun _ _ _ _ z => z.elim) (fun _ _ _ _ _ z => z.elim)⟩
  obtain rfl : d = .bool true := pd
  cases rd
  exact q H'
end
/-! ### the law's end -/
theorem lawG_call {P : Program} {w : World} {K : PySem.W.Frag} {mg mb : Str → Option Value} {k : Nat} {fa a : Addr} {fd : FuncData} {x : Str} {s₁ : Shared} {vs : List Value} {ns : List Int}
    (KX : K.In s₁.heap) (hm : s₁.heap.Ns mainGlobals mg) (hb : s₁.heap.Ns builtinsNs mb) (hbb : ∀ y : Str, y ≠ "__name__" → mb y = bootBuiltins y) (nl : s₁.heap.NoLimit) (gs : s₁.gens = #[])
    (ha : s₁.heap.get? a = some { cls := .type "list", data := .seq vs.toArray }) (hi : IntsAre vs ns) (hl : ns.length ≤ 63) (room : Room k callerA)
    (F : ∀ base : Heap, K.In base → base.Ns mainGlobals mg → FnG P w K mg base k fa fd [x] (spL K)) (bd : ∀ (s : Shared) (u : Value), BindsTo s fd ⟨[u], []⟩ [(x, u)]) :
    codeAny (model P w) callerA (.call (.ref fa) ⟨[.ref a], []⟩) (fun r s' => r = .ok (.ret (.bool true)) ∧ OldK s₁.heap s'.heap ∧ s'.os = s₁.os ∧ AllBare s'.gens) s₁ := by
  have rv := vals_ints hi
  have lz : ns.length ≤ sizeLine := Nat.le_trans hl (by decide)
  have main : ∀ H : Hp, (∀ b, H b = none ∨ (b = a ∧ ∃ o ys, H b = some (.frz o (.lst ys)))) → SqL K H a (ns.map V.int) → HOk P w H s₁.heap → (H a ≠ none → K.lookup a = none) →
      codeAny (model P w) callerA (.call (.ref fa) ⟨[.ref a], []⟩) (fun r s' => r = .ok (.ret (.bool true)) ∧ OldK s₁.heap s'.heap ∧ s'.os = s₁.os ∧ AllBare s'.gens) s₁ := by
    intro H hO hS hok hK
    have nodict : ∀ {b : Addr} {o : Obj} {es : Array DictEntry} {ep : Nat}, s₁.heap.get? b = some o → o.data = .dict es ep → H b = none := fun {b o es ep} e d => by
      rcases hO b with z | ⟨rfl, _⟩
      · exact z
      · rw [ha] at e
        cases e
        cases d
    have nsH : ∀ {b : Addr} {m : Str → Option Value}, s₁.heap.Ns b m → (hidT s₁.heap H).Ns b m := fun {b m} ⟨o, es, ep, e, d, r⟩ => ⟨o, es, ep, hidT_get e (nodict e d), d, r⟩
    have kinH : K.In (hidT s₁.heap H) := fun b o e => hidT_get (KX b o e) (by
      rcases hO b with z | ⟨rfl, _, _, z⟩
      · exact z
      · rw [hK (by rw [z]; simp)] at e
        cases e)
    obtain ⟨mc, c1, c2⟩ := nl
    have e0 : Env0 P w K mg (hidT s₁.heap H) callerA [] s₁ H :=
      ⟨rfl, ⟨kinH, nsH hm, ⟨mb, nsH hb, hbb⟩, mc, nsH c1, c2⟩, fun b o e => of_hidT e, Nat.le_of_eq (hidT_size _ _), trivial, fun b hb => (by cases hb), hok, .of_eq gs⟩
    refine codeAny_mono ((F _ kinH (nsH hm)).run callerA [] s₁ H ⟨[.ref a], []⟩ [.ref a] [.ref a] (fun v _ => v = .bl true) rfl room e0 (bd s₁ (.ref a)) (.cons rfl .nil) ⟨a, ns, rfl, hS, hl, fun _ => rfl⟩) fun r s' h => ?_
    obtain ⟨u, rfl, v, H', os, bare, un, hok', r', q⟩ := h
    obtain rfl : v = .bl true := q
    obtain rfl : u = Value.bool true := r'
    refine ⟨rfl, OldK.of_keep fun b o e => ?_, os, bare⟩
    rcases hO b with z | ⟨_, ob, ys, z⟩
    · exact un.keep b o e z (fun y => by cases y) (fun y => by cases y)
    · have z2 := un.frzs b ob _ z
      obtain ⟨e1, _⟩ := hok b _ z
      obtain ⟨e2, _⟩ := hok' b _ z2
      rw [e] at e1
      cases e1
      exact e2
  cases hk : K.lookup a with
  | some o =>
    have e := KX a o hk
    rw [ha] at e
    cases e
    refine main (fun _ => none) (fun _ => .inl rfl) (.inr ⟨_, vs.toArray, _, hk, rfl, rfl, rfl, ?_, by simpa using rv⟩) (fun b u z => nomatch z) fun z => absurd rfl z
    rw [List.size_toArray, hi.length]
    exact lz
  | none =>
    let o0 : Obj := { cls := .type "list", data := .seq vs.toArray }
    let H0 : Hp := fun b => if b = a then some (.frz o0 (.lst (ns.map V.int))) else none
    have h0 : H0 a = some (.frz o0 (.lst (ns.map V.int))) := if_pos rfl
    have h1 : ∀ b, b ≠ a → H0 b = none := fun b n => if_neg n
    refine main H0 (fun b => ?_) (.inl (.inr ⟨o0, h0⟩)) (fun b u z => ?_) fun _ => hk
    · by_cases n : b = a
      · subst n; exact .inr ⟨rfl, _, _, h0⟩
      · exact .inl (h1 b n)
    · by_cases n : b = a
      · subst n
        rw [h0] at z
        cases z
        exact ⟨ha, by rw [List.length_map]; exact lz, vs, _, rv, ha⟩
      · rw [h1 b n] at z
        cases z
theorem walkG {l : PySem.W.OpenLaw} {k : Nat} {q : Program} {loose : List Str} {XP : (Str → Option Value) → Heap → Prop} {YP : World → Heap → Prop} {d : DefRec} {K : Params → PySem.W.Frag} {x : Str}
    (hn : l.most = some 63) (hdf : d.params.defaults = []) (hr : Room k callerA) (hY : ∀ (w : World) (h : Heap), YP w h → (K w.params).In h)
    (F : ∀ (w : World) (mg : Str → Option Value) (fa : Addr) (h : Heap), (K w.params).In h → h.Ns mainGlobals mg → mg d.name = some (.ref fa) →
      ∃ fd : FuncData, (∀ (s : Shared) (u : Value), BindsTo s fd ⟨[u], []⟩ [(x, u)]) ∧ ∀ base : Heap, (K w.params).In base → base.Ns mainGlobals mg → FnG l.prog w (K w.params) mg base k fa fd [x] (spL (K w.params))) :
    PySem.W.WalkO q loose XP YP l.row.toRowW d [] (fun f vs => PySem.call f vs) := by
  refine Att.attach_call hn hdf fun w s0 s1 mg mb fa o pm cd doc a vs ns Gd Yh ho hd hcd hmg hobj hints hlen hgs => ?_
  have kx := hY w _ Yh
  obtain ⟨fd, bd, hF⟩ := F w mg fa _ kx Gd.T.g hmg
  exact lawG_call kx Gd.T.g Gd.T.b Gd.T.builtins Gd.T.nolimit hgs hobj hints hlen hr hF bd
end FD

set_option Elab.async false
set_option linter.all false
set_option maxRecDepth 100000
set_option maxHeartbeats 2000000
namespace FD
open PySem PySem.Spec PyProof.Rows L2

section
variable {K : PySem.W.Frag} {env : En} {ta tb tc te : TE} {t u : TS} {P : En → PyData → Prop} {O : Outs}
/-! ### tests of several parts -/
theorem eb_and {tt uu : TT} {P : En → Bool → Prop} (h : EvB K tt env fun e1 c => (c = true → EvB K uu e1 P) ∧ (c = false → P e1 false)) : EvB K (tAnd tt uu) env P := fun B σ G H Q I q =>
  h B σ G H _ I fun c G1 H1 e1 p1 x1 I1 => by
    cases c with
    | true => exact iteT (p1.1 rfl B σ G1 H1 Q I1 fun b G2 H2 e2 p2 x2 I2 => q b G2 H2 e2 p2 (x1.trans x2) I2)
    | false => exact iteF (q false G1 H1 e1 (p1.2 rfl) x1 I1)
theorem eb_or {tt uu : TT} {P : En → Bool → Prop} (h : EvB K tt env fun e1 c => (c = false → EvB K uu e1 P) ∧ (c = true → P e1 true)) : EvB K (tOr tt uu) env P := fun B σ G H Q I q =>
  h B σ G H _ I fun c G1 H1 e1 p1 x1 I1 => by
    cases c with
    | false => exact iteF (p1.1 rfl B σ G1 H1 Q I1 fun b G2 H2 e2 p2 x2 I2 => q b G2 H2 e2 p2 (x1.trans x2) I2)
    | true => exact iteT (q true G1 H1 e1 (p1.2 rfl) x1 I1)
theorem eb_not {tt : TT} {P : En → Bool → Prop} (h : EvB K tt env fun e1 c => P e1 (!c)) : EvB K (tNot tt) env P := fun B σ G H Q I q =>
  h B σ G H _ I fun c G1 H1 e1 p1 x1 I1 => q (!c) G1 H1 e1 p1 x1 I1
theorem eb_yes {P : En → Bool → Prop} (h : P env true) : EvB K tYes env P := fun B σ G H Q I q => q true G H env h (Ex.refl G) I
/-! ### the script -/
theorem ev_slen {i : Nat} {p : Addr} {ns : List Int} (hi : env[i]? = some (some (.script p ns))) (h : P env (.int ns.length)) : EvE K (tCB (rLen K) (tCons (tVar i) tNil)) env P := fun B σ G H Q I q => by
  obtain ⟨v, h1, rfl, g⟩ := I.sl i _ hi
  have g' : SqL K H p (ns.map V.int) := SqL.ex g I.exH
  refine ⟨_, h1, _, _, rfl, .inl ⟨_, g', rfl⟩, ?_⟩
  rw [List.length_map]
  exact q _ G H env _ h (Ex.refl G) I (.int _)
theorem atI_map {ns : List Int} {j : Int} {z : Int} (h : L2.atI ns j = some z) : L2.atI (ns.map V.int) j = some (.int z) := by
  unfold L2.atI at h ⊢
  rw [List.length_map]
  cases e : ixN ns.length j with
  | none => rw [e] at h; cases h
  | some m =>
    rw [e] at h
    have h' : ns[m]? = some z := h
    show (ns.map V.int)[m]? = _
    rw [List.getElem?_map, h']
    rfl
theorem ev_sat {i : Nat} {p : Addr} {ns : List Int} {tb : TE} (hi : env[i]? = some (some (.script p ns))) (h : EvE K tb env fun e1 d => ∃ j z, d = .int j ∧ L2.atI ns j = some z ∧ P e1 (.int z)) : EvE K (tOp (rIx K) (tVar i) tb) env P := fun B σ G H Q I q => by
  obtain ⟨v, h1, rfl, g⟩ := I.sl i _ hi
  refine ⟨_, h1, ?_⟩
  refine h B σ G H _ I fun y G1 H1 e1 d1 p1 x1 I1 r1 => ?_
  obtain ⟨j, z, rfl, hz, hp⟩ := p1
  cases r1
  exact .inl ⟨_, _, j, _, rfl, rfl, SqL.ex g (x1.trans I1.exH), atI_map hz, q _ G1 H1 e1 _ hp x1 I1 (.int _)⟩
/-- sum(script[:j]) -/
theorem ev_ssum {i : Nat} {p : Addr} {ns : List Int} {tb : TE} (hi : env[i]? = some (some (.script p ns))) (h : EvE K tb env fun e1 d => (∃ j, d = .int j) ∧ ∀ z, P e1 (.int z)) :
    EvE K (tCB (rSum K) (tCons (tSl (rSlice K) (tVar i) tNoPart (tPart tb)) tNil)) env P := fun B σ G H Q I q => by
  obtain ⟨v, h1, rfl, g⟩ := I.sl i _ hi
  refine ⟨_, h1, ?_⟩
  refine h B σ G H _ I fun y G1 H1 e1 d1 p1 x1 I1 r1 => ?_
  obtain ⟨⟨j, rfl⟩, hp⟩ := p1
  cases r1
  refine ⟨j, rfl, .inl ⟨_, _, rfl, SqL.ex g (x1.trans I1.exH), fun a na => ?_⟩⟩
  have n := I1.exH.fresh na
  have e : cutV (ns.map V.int) none (some j) = ((ns.drop (HT.sIx ns.length 0 none)).take (HT.sIx ns.length ns.length (some j) - HT.sIx ns.length 0 none)).map V.int := by
    unfold cutV
    rw [List.length_map, List.map_take, List.map_drop]
  rw [e]
  exact ⟨a, _, rfl, SqL.of upd_same, q _ _ _ e1 _ (hp _) (x1.trans (Ex.new n)) (I1.new na) (.int _)⟩
/-! ### dicts with text keys -/
def lkD (x : Str) : List (PyData × PyData) → Option PyData
  | [] => none
  | (k, d) :: r => match k with
    | .str y => if y = x then some d else lkD x r
    | _ => lkD x r
theorem DdKv.lk {G : Hp} {x : Str} : ∀ {kvs : List (Key × V)} {ds : List (PyData × PyData)}, DdKv G kvs ds → (valV kvs (.inr x) = none ∧ lkD x ds = none) ∨ ∃ v d, valV kvs (.inr x) = some v ∧ lkD x ds = some d ∧ Dd G v d
  | _, _, .nil => .inl ⟨rfl, rfl⟩
  | _, _, .cons (k := k) (v := v) (vs := vs) (d := d) (ds := ds) r t => by
    have ih := DdKv.lk (x := x) t
    cases k with
    | inl i =>
      have e : valV ((Sum.inl i, v) :: vs) (.inr x) = valV vs (.inr x) := valV_neg (fun z => nomatch z)
      rw [e]
      exact ih
    | inr y =>
      by_cases z : y = x
      · subst z
        refine .inr ⟨v, d, valV_pos rfl, ?_, r⟩
        show (if y = y then some d else _) = _
        rw [if_pos rfl]
      · have e : valV ((Sum.inr y, v) :: vs) (.inr x) = valV vs (.inr x) := valV_neg (fun q => z (Sum.inr.inj q))
        have e2 : lkD x ((kD (.inr y), d) :: ds) = lkD x ds := by
          show (if y = x then some d else _) = _
          rw [if_neg z]
        rw [e, e2]
        exact ih
/-- the pairs behind a store: in its place, or at the end -/
def isK (y : Str) : PyData → Bool
  | .str z => decide (z = y)
  | _ => false
def putD (y : Str) (d : PyData) (ds : List (PyData × PyData)) : List (PyData × PyData) :=
  if (ds.any fun p => isK y p.1) = true then ds.map (fun p => if isK y p.1 = true then (p.1, d) else p) else ds ++ [(.str y, d)]
theorem isK_kD (y : Str) (k : Key) : isK y (kD k) = decide (k = .inr y) := by
  cases k with
  | inl i => exact (decide_eq_false (fun q => nomatch q)).symm
  | inr z =>
    show decide (z = y) = _
    by_cases q : z = y
    · subst q; simp
    · rw [decide_eq_false q, decide_eq_false (fun e => q (Sum.inr.inj e))]
theorem DdKv.putD {G : Hp} {y : Str} {v : V} {d : PyData} (r : Dd G v d) {kvs : List (Key × V)} {ds : List (PyData × PyData)} (h : DdKv G kvs ds) : DdKv G (putK kvs (.inr y) v) (putD y d ds) := by
  have hm : ∀ {kvs : List (Key × V)} {ds : List (PyData × PyData)}, DdKv G kvs ds → DdKv G (kvs.map fun kv => if kv.1 = Sum.inr y then (kv.1, v) else kv) (ds.map (fun p => if isK y p.1 = true then (p.1, d) else p)) := by
    intro kvs
    induction kvs with
    | nil => intro ds h; cases h; exact .nil
    | cons q r' ih =>
      intro ds h
      cases h with
      | cons h1 h2 =>
        rename_i k' v' d' ds'
        rw [List.map_cons, List.map_cons]
        show DdKv G ((if k' = Sum.inr y then (k', v) else (k', v')) :: _) ((if isK y (kD k') = true then (kD k', d) else (kD k', d')) :: _)
        rw [isK_kD]
        by_cases z : k' = Sum.inr y
        · rw [if_pos z, if_pos (decide_eq_true z)]; exact .cons r (ih h2)
        · rw [if_neg z, if_neg (by rw [decide_eq_false z]; exact Bool.false_ne_true)]; exact .cons h1 (ih h2)
  have ha : ∀ {kvs : List (Key × V)} {ds : List (PyData × PyData)}, DdKv G kvs ds → DdKv G (kvs ++ [(.inr y, v)]) (ds ++ [(kD (.inr y), d)]) := by
    intro kvs
    induction kvs with
    | nil => intro ds h; cases h; exact .cons r .nil
    | cons q r' ih =>
      intro ds h
      cases h with
      | cons h1 h2 => exact .cons h1 (ih h2)
  have hy : ∀ {kvs : List (Key × V)} {ds : List (PyData × PyData)}, DdKv G kvs ds → (ds.any fun p => isK y p.1) = kvs.any fun kv => decide (kv.1 = Sum.inr y) := by
    intro kvs
    induction kvs with
    | nil => intro ds h; cases h; rfl
    | cons q r' ih =>
      intro ds h
      cases h with
      | cons h1 h2 => rw [List.any_cons, List.any_cons, ih h2, isK_kD]
  unfold putK FD.putD
  rw [hy h]
  by_cases z : (kvs.any fun kv => decide (kv.1 = Sum.inr y)) = true
  · rw [if_pos z, if_pos z]; exact hm h
  · rw [if_neg z, if_neg z]; exact ha h
theorem DdKv.length {G : Hp} : ∀ {kvs : List (Key × V)} {ds : List (PyData × PyData)}, DdKv G kvs ds → kvs.length = ds.length
  | _, _, .nil => rfl
  | _, _, .cons _ t => by rw [List.length_cons, List.length_cons, DdKv.length t]
theorem putD_length (y : Str) (d : PyData) (ds : List (PyData × PyData)) : (putD y d ds).length ≤ ds.length + 1 := by
  unfold putD
  split
  · simp
  · simp
theorem lkD_app (x y : Str) (d : PyData) : ∀ ds : List (PyData × PyData), (ds.any fun p => isK y p.1) = false → lkD x (ds ++ [(.str y, d)]) = if x = y then some d else lkD x ds
  | [], _ => by
    show (if y = x then some d else none) = _
    by_cases z : x = y
    · rw [if_pos z, if_pos z.symm]
    · rw [if_neg z, if_neg (fun e => z e.symm)]; rfl
  | (k, f) :: r, h => by
    rw [List.any_cons, Bool.or_eq_false_iff] at h
    have ih := lkD_app x y d r h.2
    cases k with
    | str z =>
      have h1 : decide (z = y) = false := h.1
      have zy : z ≠ y := of_decide_eq_false h1
      show (if z = x then some f else lkD x (r ++ [(.str y, d)])) = if x = y then some d else (if z = x then some f else lkD x r)
      rw [ih]
      by_cases q : z = x
      · subst q; rw [if_pos rfl, if_neg zy, if_pos rfl]
      · rw [if_neg q, if_neg q]
    | _ => exact ih
theorem lkD_map (x y : Str) (d : PyData) : ∀ ds : List (PyData × PyData), (ds.any fun p => isK y p.1) = true → lkD x (ds.map (fun p => if isK y p.1 = true then (p.1, d) else p)) = if x = y then some d else lkD x ds
  | [], h => by cases h
  | (k, f) :: r, h => by
    by_cases hr : (r.any fun p => isK y p.1) = true
    · have ih := lkD_map x y d r hr
      rw [List.map_cons]
      cases k with
      | str z =>
        show lkD x ((if decide (z = y) = true then (.str z, d) else (.str z, f)) :: _) = if x = y then some d else (if z = x then some f else lkD x r)
        by_cases q : z = y
        · subst q
          rw [if_pos (decide_eq_true rfl)]
          show (if z = x then some d else lkD x _) = _
          rw [ih]
          by_cases e : z = x
          · subst e; rw [if_pos rfl, if_pos rfl]
          · have e' : ¬ x = z := fun a => e a.symm
            simp only [if_neg e, if_neg e']
        · rw [if_neg (by rw [decide_eq_false q]; exact Bool.false_ne_true)]
          show (if z = x then some f else lkD x _) = _
          rw [ih]
          by_cases e : z = x
          · subst e; rw [if_pos rfl, if_neg q, if_pos rfl]
          · rw [if_neg e, if_neg e]
      | _ => exact ih
    · have hr' : (r.any fun p => isK y p.1) = false := by simpa using hr
      have hid : (r.map (fun p => if isK y p.1 = true then (p.1, d) else p)) = r := by
        rw [List.map_congr_left (g := id) fun p hp => ?_, List.map_id]
        have := List.any_eq_false.mp hr' p hp
        rw [if_neg this]; rfl
      rw [List.any_cons, hr', Bool.or_false] at h
      rw [List.map_cons, hid]
      cases k with
      | str z =>
        have zy : z = y := of_decide_eq_true h
        subst zy
        show lkD x ((if decide (z = z) = true then (.str z, d) else (.str z, f)) :: r) = if x = z then some d else (if z = x then some f else lkD x r)
        rw [if_pos (decide_eq_true rfl)]
        show (if z = x then some d else lkD x r) = _
        by_cases e : z = x
        · subst e; rw [if_pos rfl, if_pos rfl]
        · rw [if_neg e, if_neg (fun a => e a.symm), if_neg e]
      | _ => cases h
theorem lkD_put (x y : Str) (d : PyData) (ds : List (PyData × PyData)) : lkD x (putD y d ds) = if x = y then some d else lkD x ds := by
  unfold putD
  by_cases z : (ds.any fun p => isK y p.1) = true
  · rw [if_pos z]; exact lkD_map x y d ds z
  · rw [if_neg z]; exact lkD_app x y d ds (by simpa using z)
/-- not in a dict; an item of it -/
theorem ev_dni (h : EvE K ta env fun e1 d => EvE K tb e1 fun e2 dd => ∃ x ds, d = .str x ∧ dd = .dict ds ∧ P e2 (.bool (!(lkD x ds).isSome))) : EvE K (tDNotIn ta tb) env P := fun B σ G H Q I q =>
  h B σ G H _ I fun y G1 H1 e1 d1 p1 x1 I1 r1 => p1 B σ G1 H1 _ I1 fun z G2 H2 e2 d2 p2 x2 I2 r2 => by
    obtain ⟨x, ds, rfl, rfl, hp⟩ := p2
    cases r1
    cases r2 with
    | dct h1 h2 =>
      refine ⟨_, _, rfl, DGet.k (k := .inr x) (I2.exH _ _ h1), ?_⟩
      rename_i a0 kvs0
      have e : (valV kvs0 (Sum.inr x)).isSome = (lkD x ds).isSome := by
        rcases h2.lk (x := x) with ⟨a, b⟩ | ⟨v, d, a, b, _⟩
        · rw [a, b]; rfl
        · rw [a, b]; rfl
      rw [e]
      exact q _ G2 H2 e2 _ hp (x1.trans x2) I2 (.bl _)
theorem ev_dget (h : EvE K ta env fun e1 dd => EvE K tb e1 fun e2 d => ∃ x ds f, d = .str x ∧ dd = .dict ds ∧ lkD x ds = some f ∧ P e2 f) : EvE K (tDGet ta tb) env P := fun B σ G H Q I q =>
  h B σ G H _ I fun y G1 H1 e1 d1 p1 x1 I1 r1 => p1 B σ G1 H1 _ I1 fun z G2 H2 e2 d2 p2 x2 I2 r2 => by
    obtain ⟨x, ds, f, rfl, rfl, hf, hp⟩ := p2
    cases r2
    have r1' := r1.ex x2
    cases r1' with
    | dct h1 h2 =>
      rcases h2.lk (x := x) with ⟨a, b⟩ | ⟨v, d, a, b, rv⟩
      · rw [hf] at b; cases b
      · rw [hf] at b; cases b
        refine ⟨_, v, rfl, ?_, q v G2 H2 e2 _ hp (x1.trans x2) I2 rv⟩
        rw [← a]
        exact DGet.k (k := .inr x) (I2.exH _ _ h1)
/-- a dict of one's own -/
theorem es_odc {i : Nat} {x : Str} {j : Int} (h : ∀ p : Addr, O.nx (env.set i (some (.odc p [(.str x, .int j)])))) : EvS K (tAsg (tDisp [(tC (.str x), tC (.int j))]) (gName i)) env O := fun B σ G H D I a b c d f => by
  intro p np
  show (upd H p (.dK [])) p = _ ∧ _
  refine ⟨upd_same, [(.inr x, .int j)], rfl, Nat.le_of_ble_eq_true rfl, ?_⟩
  rw [upd_upd]
  have n := I.exH.fresh np
  have I2 : EnvOk K B G (upd H p (.dK (mergeK [] [(.inr x, .int j)]))) σ env := by
    refine ⟨I.exH.trans (Ex.new np), I.exG, fun q u hq hm => Ex.new np _ _ (I.keep q u hq hm), I.nog, fun q u hq => ?_, I.mus, I.len, fun j s e => ?_, I.mine, I.inj⟩
    · obtain ⟨w, hw⟩ := I.there q u hq
      exact ⟨w, Ex.new np _ _ hw⟩
    · obtain ⟨v, h1, h2⟩ := I.sl j s e
      exact ⟨v, h1, h2.ex (Ex.refl _) (fun q hq => (h2.has hq).2.1) fun q u hq hu => Ex.new np _ _ hu⟩
  have bp : B.H p = none := by
    cases z : B.H p with
    | none => rfl
    | some o => obtain ⟨u, hu⟩ := I.there p o z; rw [np] at hu; cases hu
  refine a _ G _ _ (h p) (Ex.refl G) (I2.setO (s := .odc p _) ⟨rfl, n, _, upd_same, .cons (k := .inr x) (.int j) .nil⟩ rfl bp fun j t e z => ?_)
  obtain ⟨v, _, h2⟩ := I.sl j t e
  obtain ⟨_, _, o, ho⟩ := h2.has z
  rw [np] at ho; cases ho
theorem es_dput {i : Nat} {p : Addr} {ds0 : List (PyData × PyData)} {tv ty : TE} (h0 : env[i]? = some (some (.odc p ds0)))
    (h : EvE K tv env fun e1 d => e1 = env ∧ EvE K ty env fun e2 k => e2 = env ∧ ∃ y, k = .str y ∧ ds0.length < 100000 ∧ O.nx (env.set i (some (.odc p (putD y d ds0))))) : EvS K (sDPut (tVar i) ty tv) env O := fun B σ G H D I a b c d f => by
  refine h B σ G H _ I fun v G1 H1 e1 d1 p1 x1 I1 r1 => ?_
  obtain ⟨rfl, p1⟩ := p1
  obtain ⟨v0, hv0, rfl, _⟩ := I1.sl i _ h0
  refine ⟨_, hv0, ?_⟩
  refine p1 B σ G1 H1 _ I1 fun yv G2 H2 e2 k p2 x2 I2 r2 => ?_
  obtain ⟨rfl, y, rfl, hl, hn⟩ := p2
  cases r2
  obtain ⟨v1, hv1, rfl, g1, kvs, hk, rk⟩ := I2.sl i _ h0
  refine ⟨p, _, rfl, DPut.k (k := .inr y) hk (by rw [rk.length]; exact Nat.lt_of_lt_of_le hl (by decide)), ?_⟩
  exact a σ G2 _ _ hn (x1.trans x2) (I2.put h0 rfl rfl rfl ⟨rfl, g1, _, upd_same, rk.putD (r1.ex x2)⟩)
/-- a dict of one's own, read: from now on it stays -/
theorem ev_odc {i : Nat} {p : Addr} {ds : List (PyData × PyData)} (h : env[i]? = some (some (.odc p ds))) (q : P (env.set i (some (.dat (.dict ds)))) (.dict ds)) : EvE K (tVar i) env P := fun B σ G H Q I k => by
  obtain ⟨v, hv, rfl, g, xs, hx, r⟩ := I.sl i _ h
  have bp : B.H p = none := by
    rcases I.mine i _ p h rfl with m | m
    · exact m
    · cases m.2
  have I2 := (I.forget i).freeze hx g (fun j s e a => by
    by_cases z : i = j
    · subst z
      by_cases q : i < env.length
      · rw [List.getElem?_set_self q] at e; cases e
      · rw [List.getElem?_eq_none (by omega)] at h; cases h
    · rw [List.getElem?_set_ne z] at e; exact z (I.inj _ _ _ _ _ h e rfl a)) bp
  have rd : Dd (upd G p (.dK xs)) (.ref p) (.dict ds) := .dct upd_same (r.ex (Ex.new g))
  have I3 := I2.tell hv rd
  rw [List.set_set] at I3
  exact ⟨_, hv, k _ _ H _ _ q (Ex.new g) I3 rd⟩
end
end FD

set_option Elab.async false
set_option linter.all false
set_option maxRecDepth 100000
set_option maxHeartbeats 2000000
namespace FD
open PySem PySem.Spec PyProof.Rows L2
theorem bInt : bootBuiltins "int" = some (.type "int") := by decide +kernel
theorem bBool : bootBuiltins "bool" = some (.type "bool") := by decide +kernel
theorem bStr : bootBuiltins "str" = some (.type "str") := by decide +kernel
theorem bTuple : bootBuiltins "tuple" = some (.type "tuple") := by decide +kernel
theorem bList : bootBuiltins "list" = some (.type "list") := by decide +kernel
theorem bLen : bootBuiltins "len" = some (.builtin "len") := by decide +kernel
theorem bAll : bootBuiltins "all" = some (.builtin "all") := by decide +kernel
theorem bRepr : bootBuiltins "repr" = some (.builtin "repr") := by decide +kernel
theorem bMax : bootBuiltins "max" = some (.builtin "max") := by decide +kernel
theorem bMin : bootBuiltins "min" = some (.builtin "min") := by decide +kernel
theorem bSum : bootBuiltins "sum" = some (.builtin "sum") := by decide +kernel
/-- the built-ins' names are the built-ins' -/
structure Bi (mg : Str → Option Value) : Prop where
  len : mg "len" = none
  isi : mg "isinstance" = none
  int : mg "int" = none
  bool : mg "bool" = none
  str : mg "str" = none
  tuple : mg "tuple" = none
  list : mg "list" = none
  all : mg "all" = none
  repr : mg "repr" = none
  sum : mg "sum" = none
  min : mg "min" = none
  max : mg "max" = none
  range : mg "range" = none
section
variable {prog : Program} {w : World} {A : Around} {E : Value → Shared → Prop} {s : Shared}
theorem back_places (n : Nat) : Builtin.Slice.slicePlaces ((n : Int) - 1) (-1) (-1) = n := by
  unfold Builtin.Slice.slicePlaces
  rw [if_neg (by decide)]
  by_cases z : n = 0
  · subst z; decide
  · rw [if_pos (by omega)]
    have : ((n : Int) - 1 - -1 - 1) / (- -1) = (n : Int) - 1 := by
      rw [show ((n : Int) - 1 - -1 - 1) = (n : Int) - 1 by omega, show (- -1 : Int) = 1 by decide, Int.ediv_one]
    rw [this]
    omega
theorem back_pick (xs : Array Value) : ((List.range xs.size).filterMap fun (k : Nat) => xs[((xs.size : Int) - 1 + (k : Int) * (-1)).toNat]?).toArray = xs.toList.reverse.toArray := by
  have go := HT.pick_gen xs.toList.reverse.toArray 0 xs.size
  rw [show (xs.toList.reverse.toArray.toList.drop 0).take xs.size = xs.toList.reverse from by rw [List.drop_zero]; exact List.take_of_length_le (by rw [List.length_reverse, Array.length_toList]; exact Nat.le_refl _)] at go
  rw [← go]
  congr 1
  have same : ∀ (l : List Nat) (f g : Nat → Option Value), (∀ k, k ∈ l → f k = g k) → l.filterMap f = l.filterMap g := by
    intro l f g
    induction l with
    | nil => intro _; rfl
    | cons k l ih =>
      intro h
      rw [List.filterMap_cons, List.filterMap_cons, h k List.mem_cons_self, ih fun j hj => h j (List.mem_cons_of_mem _ hj)]
  refine same _ _ _ fun k hk => ?_
  have hk := List.mem_range.mp hk
  rw [show ((((0 : Nat) : Int) + (k : Int) * 1).toNat) = k by omega, show ((xs.size : Int) - 1 + (k : Int) * (-1)).toNat = xs.size - 1 - k by omega]
  have e1 : xs[xs.size - 1 - k]? = xs.toList[xs.size - 1 - k]? := by simp
  have e2 : xs.toList.reverse.toArray[k]? = xs.toList.reverse[k]? := by simp
  rw [e1, e2, List.getElem?_reverse (by rw [Array.length_toList]; exact hk), Array.length_toList]
theorem back_run {sl : Addr} {vl vu vk : Value} {n : Nat} {Q : Int × Int × Nat → Shared → Prop} (at_ : s.heap.IsSliceOf sl vl vu vk) (a : IsPart vl none) (b : IsPart vu none) (c : IsPart vk (some (-1)))
    (h : Q ((n : Int) - 1, -1, n) s) : wpAny (model prog w) A (Builtin.Slice.sliceApplied (.ref sl) (pure (n : Int))) Q E s := by
  cases a; cases b
  cases c with
  | int i u =>
  obtain ⟨ob, get, cl, dat⟩ := at_
  unfold Builtin.Slice.sliceApplied Builtin.Slice.sliceFields
  refine wpAny_bind (wpAny_bind (wpAny_field get dat (x := .none) rfl (wpAny_bind (wpAny_field get dat (x := .none) rfl (wpAny_bind (wpAny_field get dat (x := .int (-1) u) rfl (wpAny_pure ?_)))))))
  refine wpAny_bind (slicePart_int ?_)
  show wpAny _ _ (ite (((-1 : Int) == 0) = true) _ _) _ _ s
  rw [if_neg (by decide)]
  refine wpAny_bind (slicePart_none ?_)
  refine wpAny_bind (slicePart_none ?_)
  refine wpAny_bind (wpAny_pure ?_)
  show wpAny _ _ (pure ((n : Int) - 1, (-1 : Int), Builtin.Slice.slicePlaces ((n : Int) - 1) (-1) (-1))) _ _ s
  rw [back_places]
  exact wpAny_pure h
theorem back_get {t sl : Addr} {xs : Array Value} {vl vu vk : Value} {Q : Value → Shared → Prop} (tp : IsTup s.heap t xs) (at_ : s.heap.IsSliceOf sl vl vu vk) (a : IsPart vl none) (b : IsPart vu none) (c : IsPart vk (some (-1)))
    (h : Q (.ref s.heap.objs.size) { s with heap := s.heap.push { cls := .type "tuple", data := .seq xs.toList.reverse.toArray } }) (small : xs.size ≤ sizeLine) :
    wpAny (model prog w) A (getItem (.ref t) (.ref sl)) Q E s := by
  have fits : sizeOk (.seq xs.toList.reverse.toArray) := by
    show xs.toList.reverse.toArray.size ≤ sizeLine
    rw [List.size_toArray, List.length_reverse, Array.length_toList]
    exact small
  have isSl : s.TypeIs (.ref sl) "slice" := by
    obtain ⟨ob, get, cl, _⟩ := at_
    exact ⟨ob, get, cl⟩
  unfold getItem
  try with_reducible refine wpAny_holding ?_
  first | refine wpAny_bind (wpAny_pure ?_) | skip
  refine wpAny_bind (wpAny_sequenceKey tp.typeIs (by decide) ?_)
  refine wpAny_bind (wpAny_callSpecial?_slot (name := Str.ofString "__getitem__") tp.typeIs slot_tuple_getitem
    (wpAny_call_entry slot_tuple_getitem tp.typeIs entry_tuple_getitem ?_ (args_tuple_getitem _ _)))
  show wpAny _ _ (bind (Builtin.Tuple.tupleItemsOf (.ref t)) _) _ _ s
  refine wpAny_bind (tupleItemsOf_ tp ?_)
  refine wpAny_bind (wpAny_typeOf isSl ?_)
  rw [if_pos (by decide)]
  refine wpAny_bind (back_run at_ a b c ?_)
  have nw : ¬ ((((xs.size : Int) - 1) == 0 && (-1 : Int) == 1 && xs.size == xs.size) = true) := by
    rw [show ((-1 : Int) == 1) = false by decide, Bool.and_false, Bool.false_and]
    decide
  show wpAny _ _ (ite ((((xs.size : Int) - 1) == 0 && (-1 : Int) == 1 && xs.size == xs.size) = true) _ _) _ _ s
  rw [if_neg nw, back_pick]
  first
    | exact wpAny_bind (m := Builtin.Tuple.tupleExact _) (wpAny_newObj_type (wpAny_pure ⟨_, rfl, wpAny_pure h⟩) fits)
    | exact wpAny_bind (m := Builtin.Tuple.tupleExact _) (wpAny_newObj_type (wpAny_bind (wpAny_pure (wpAny_pure ⟨_, rfl, wpAny_pure h⟩))) fits)
    | exact wpAny_bind (wpAny_bind (m := Builtin.Tuple.tupleExact _) (wpAny_newObj_type (wpAny_pure (wpAny_pure ⟨_, rfl, wpAny_pure h⟩)) fits))
    | exact wpAny_bind (wpAny_bind (m := Builtin.Tuple.tupleExact _) (wpAny_newObj_type (wpAny_pure ⟨_, rfl, wpAny_pure h⟩) fits))
end
section
variable {X : Cx}
/-- isinstance(e, n) -/
theorem pe_isi {n : String} {nm : Str} {e : Expr} {te : TE} {p p2 pos : Pos} (b : Bi X.mg) (hm : X.mg nm = none) (hv : bootBuiltins nm = some (.type n)) (hg : Gl X "isinstance") (hg2 : Gl X nm) (he : PE X e te)
    (h1 : starEach [e, .Name nm p2] X.env = (false, eval e X.env) :: starEach [.Name nm p2] X.env := by rfl) (h2 : starEach [.Name nm p2] X.env = (false, eval (.Name nm p2) X.env) :: starEach [] X.env := by rfl)
    (hpl : (backTo pos (starEach [.Name nm p2] X.env)).any (·.1) = false := by rfl) (hn : nm ≠ "__name__" := by decide) (hd : (nm == ("__debug__" : Str)) = false := by decide) :
    PE X (.Call (.Name "isinstance" p) [e, .Name nm p2] [] pos) (tCB (rIsi X.K) (tCons te (tCons (tC (.ty n)) tNil))) :=
  pe_callB (x := "isinstance") call_isi hg b.isi (by decide +kernel) (pa_cons he (pa_cons (pe_bltn (v := .ty n) hg2 hm hv rfl hn hd) pa_nil h2) h1) (by decide) (by decide) h1 hpl
theorem cl_len : CallR X (.builtin "len") (rLen X.K) := call_len
theorem cl_int : CallR X (.type "int") rInt := call_int1
theorem cl_max (hc : X.calm = true) : CallR X (.builtin "max") rMax2 := call_max2 hc
theorem cl_min (hc : X.calm = true) : CallR X (.builtin "min") rMin2 := call_min2 hc
theorem cl_tuple : CallR X (.type "tuple") (rTuple X.K) := call_tuple_of
theorem op_over : OpR X (binaryOp .FloorDiv) rOver := op_fdivN
theorem op_rest : OpR X (binaryOp .Mod) rMod := op_modN
def rInStr : R2 := fun x y H Q => ∃ i j, x = .str i ∧ y = .str j ∧ Q (.bl (!(Builtin.Str.occurrences j i 0 j.length 1).isEmpty)) H
theorem op_inStr : OpR X (compareOp .In) rInStr := op_in_str
def rLt : R2 := rI0 fun i j => .bl (decide (i < j))
def rGt : R2 := rI0 fun i j => .bl (decide (j < i))
def rGe : R2 := fun x y H Q => rI0 (fun i j => .bl (decide (j ≤ i))) x y H Q ∨ ∃ i j : Str, x = .str i ∧ y = .str j ∧ Q (.bl (!decide (i.cps.toList < j.cps.toList))) H
def rMinus : R2 := rI0 fun i j => .int (i - j)
def rPow : R2 := rI CPow fun i j => .int (i ^ j.toNat)
def rNeg : V → Hp → VK → Prop := rU fun i => .int (-i)
theorem op_lt' : OpR X (compareOp .Lt) rLt := op_lt
theorem op_gt' : OpR X (compareOp .Gt) rGt := op_gt
theorem op_ge' : OpR X (compareOp .GtE) rGe := op_ge.or op_ge_str
theorem op_minus : OpR X (binaryOp .Sub) rMinus := op_sub
theorem op_power : OpR X (binaryOp .Pow) rPow := op_pow
theorem un_minus : UnR X (unaryOp .USub) rNeg := un_neg
theorem pe_v {N : List Str} {i : Nat} {x : Str} {pos : Pos} (hN : N[i]? = some x) (hX : X.N = N) (hv : Vis X.env.scope x) (hd : (x == ("__debug__" : Str)) = false) (hc : (x == ("__classdict__" : Str)) = false) : PE X (.Name x pos) (tVar i) := pe_var (by rw [hX]; exact hN) hv hd hc
theorem pg_v {N : List Str} {i : Nat} {x : Str} {pos : Pos} (hN : N[i]? = some x) (nd : N.Nodup) (hX : X.N = N) (hx : Loc X.env.scope x) (hf : X.fn x = true ∨ X.env.scope.names.lookup x = some .local) : PG X (.Name x pos) (gName i) := pg_name (by rw [hX]; exact nd) (by rw [hX]; exact hN) hx hf
theorem pe_cl {P : Program} {w : World} {K : PySem.W.Frag} {mg : Str → Option Value} {base : Heap} {k m : Nat} {ps : List Str} {sp : Sp} {x : Str} {p pos : Pos} {e : Expr} {es : List Expr} {t : TA} (C : Cal P w K mg base k x ps sp) (h1 : X.prog = P) (h2 : X.w = w) (h3 : X.K = K) (h4 : X.mg = mg) (h5 : X.base = base)
    (hg : X.A.guards = some []) (hr : Room m X.A) (hk : k ≤ m) (hx : Gl X x) (ha : PA X (e :: es) t) (hdb : (x == ("__debug__" : Str)) = false)
    (he : starEach (e :: es) X.env = (false, eval e X.env) :: starEach es X.env) (hpl : (backTo pos (starEach es X.env)).any (·.1) = false) :
    PE X (.Call (.Name x p) (e :: es) [] pos) (tCB (callOf sp) t) := by
  subst h1 h2 h3 h4 h5
  exact pe_cal C hg (hr.mono hk) hx ha hdb he hpl
theorem pe_cl0 {P : Program} {w : World} {K : PySem.W.Frag} {mg : Str → Option Value} {base : Heap} {k m : Nat} {ps : List Str} {sp : Sp} {x : Str} {p pos : Pos} (C : Cal P w K mg base k x ps sp) (h1 : X.prog = P) (h2 : X.w = w) (h3 : X.K = K) (h4 : X.mg = mg) (h5 : X.base = base)
    (hg : X.A.guards = some []) (hr : Room m X.A) (hk : k ≤ m) (hx : Gl X x) (hdb : (x == ("__debug__" : Str)) = false) : PE X (.Call (.Name x p) [] [] pos) (tCB (callOf sp) tNil) := by
  subst h1 h2 h3 h4 h5
  exact pe_cal0 C hg (hr.mono hk) hx hdb
/-- the written part of a def's context -/
theorem cxK {CX : CXT} {P : Program} {w : World} {K : PySem.W.Frag} {mg : Str → Option Value} {base : Heap} {N : List Str} {q : Str} {sc : Scope} {f : Addr} {cd : Value} {A : Around} {outer : List PySem.Env} {s : Shared} {H : Hp} {E : XK} : (cxOf CX P w K mg base N q sc f cd A outer s H E).nox.K = K := rfl
theorem blkK {s : Shared} {H : Hp} {sc : Scope} {e : PySem.Env} {fp : List Addr} : (X.blk s H sc e fp).K = X.K := rfl
/-- [elt for x in iter if ..] -/
theorem pe_lc1 {i : Nat} {x : Str} {px : Pos} {elt iter : Expr} {ifs : List Expr} {scope : Scope} {pos : Pos} {wi : TI} {tt : TT} {te : TE} (hc : X.calm = true) (hN : X.N.Nodup)
    (hg : ∀ (s : Shared) (H : Hp) (C : Addr) (cl : List (Str × Addr)) (fp : List Addr), PG (X.blk s H scope (compEnvC scope cl C X.env) fp) (.Name x px) (gName i))
    (ok : blkC X.N X.env.scope scope [(x, i)] = true) (hi : PI X (.Name x px) iter wi)
    (ht : ∀ (s : Shared) (H : Hp) (C : Addr) (cl : List (Str × Addr)) (fp : List Addr), PTs (X.blk s H scope (compEnvC scope cl C X.env) fp) ifs tt)
    (he : ∀ (s : Shared) (H : Hp) (C : Addr) (cl : List (Str × Addr)) (fp : List Addr), PE (X.blk s H scope (compEnvC scope cl C X.env) fp) elt te)
    (hs : ∀ z, foldedSetIterable iter X.env z = pure z := by intro _; rfl) :
    PE X (.ListComp elt [⟨.Name x px, iter, ifs, 0⟩] scope pos) (tLc wi (gName i) tt te [i]) :=
  pe_lc (own := [(x, i)]) (g := gName i) hc hN hi (blkOk_by ok) hg ht he hs
/-- t[::-1] of a tuple -/
def tRevT (K : PySem.W.Frag) (te : TE) : TE := fun σ H Q => te σ H fun x H1 => ∃ a xs, x = .ref a ∧ SqT K H1 a xs ∧ ∀ p, H1 p = none → Q (.ref p) (upd H1 p (.tup xs.reverse))
theorem pe_revT {e : Expr} {te : TE} {k : Nat} {p1 p2 p3 pos : Pos} (he : PE X e te) : PE X (.Subscript e (.Slice none none (some (.UnaryOp .USub (.Constant (.int 1) k p1) p2)) p3) pos) (tRevT X.K te) := by
  have step : PO X (some (.UnaryOp .USub (.Constant (.int 1) k p1) p2)) (tPart (tUn (rU fun i => .int (-i)) (tC (.int 1)))) := po_some (pe_un un_neg pe_int)
  refine ⟨fun pins s σ H Q I h => Subscript_ (thn (he.run pins s σ H _ I h) fun v s1 ⟨x, H1, I1, r1, q1⟩ => ?_)⟩
  obtain ⟨a, xs, ex, hx, q⟩ := q1
  subst ex
  cases r1
  refine wpAny_Slice (thn (po_none.run pins s1 σ H1 (fun o H2 => o = none ∧ H2 = H1) I1 ⟨rfl, rfl⟩) fun vl s2 ⟨l, H2, I2, pl, el, e2⟩ => thn (po_none.run pins s2 σ H2 (fun o H3 => o = none ∧ H3 = H2) I2 ⟨rfl, rfl⟩) fun vu s3 ⟨u, H3, I3, pu, eu, e3⟩ =>
    thn (step.run pins s3 σ H3 (fun o H4 => o = some (-1) ∧ H4 = H3) I3 ⟨1, rfl, -1, rfl, rfl, rfl⟩) fun vs s4 ⟨o, H4, I4, ps, eo, e4⟩ => ?_)
  subst el e2 eu e3 eo e4
  have I5 : Inv X pins σ H4 { s4 with heap := s4.heap.push { cls := .type "slice", data := .fields #[vl, vu, vs] } } := I4.kept (t' := s4.toks) fun b ob g => Heap.get?_push_of_some _ g
  obtain ⟨its, r, ht, hz⟩ := I5.tuple hx
  have len := r.length
  show wpAny (model X.prog X.w) X.A (subscriptTail e (.Slice none none (some (.UnaryOp .USub (.Constant (.int 1) k p1) p2)) p3) (.ref a) (.ref s4.heap.objs.size)) (EP X pins σ Q) X.xe { s4 with heap := s4.heap.push { cls := .type "slice", data := .fields #[vl, vu, vs] } }
  refine tail_any (ops := [.ref a, .ref s4.heap.objs.size]) ht.typeIs slot_tuple_getitem.lookup ?_ (by with_unfolding_all rfl)
  refine back_get ht (Heap.IsSliceOf.new _ vl vu vs) pl pu ps ?_ (by rw [List.size_toArray, ← len]; omega)
  refine ⟨.ref _, _, I5.laid (t' := s4.toks) (o := .tup xs.reverse) (fun b ob g => Heap.get?_push_of_some _ g) (Nat.le_refl _) ?_, rfl, q _ (I5.hok.fresh (Nat.le_refl _))⟩
  refine ⟨by rw [List.length_reverse]; exact hz, its.reverse, r.reverse, ?_⟩
  exact IsTup.new _ _
end
section
variable {K : PySem.W.Frag} {env : En} {te : TE} {P : En → PyData → Prop}
theorem ev_revT (h : EvE K te env fun e1 d => ∃ ds, d = .tuple ds ∧ P e1 (.tuple ds.reverse)) : EvE K (tRevT K te) env P := fun B σ G H Q I q =>
  h B σ G H _ I fun x G1 H1 e1 d1 p1 x1 I1 r1 => by
    obtain ⟨ds, rfl, hp⟩ := p1
    cases r1 with
    | tup h1 h2 =>
      refine ⟨_, _, rfl, SqT.of (I1.exH _ _ h1), fun p np => ?_⟩
      have n := I1.exH.fresh np
      exact q _ _ _ e1 _ hp (x1.trans (Ex.new n)) (I1.new np) (.tup upd_same (h2.reverse.ex (Ex.new n)))
theorem rd_lt {env : En} {P : PyData → Prop} {i j : Int} (p : P (.bool (decide (i < j)))) : RD K rLt env (.int i) (.int j) P := rd_ltI p
theorem rd_gt {env : En} {P : PyData → Prop} {i j : Int} (p : P (.bool (decide (j < i)))) : RD K rGt env (.int i) (.int j) P := rd_gtI p
theorem rd_ge {env : En} {P : PyData → Prop} {i j : Int} (p : P (.bool (decide (j ≤ i)))) : RD K rGe env (.int i) (.int j) P := fun B σ G H x y Q I rx ry q => .inl (rd_geI p B σ G H x y Q I rx ry q)
theorem rd_geS {env : En} {P : PyData → Prop} {i j : Str} (p : P (.bool (!decide (i.cps.toList < j.cps.toList)))) : RD K rGe env (.str i) (.str j) P := fun B σ G H x y Q I rx ry q => by
  cases rx; cases ry
  exact .inr ⟨_, _, rfl, rfl, q _ G H _ p (Ex.refl G) I (.bl _)⟩
theorem rd_minus {env : En} {P : PyData → Prop} {i j : Int} (p : P (.int (i - j))) : RD K rMinus env (.int i) (.int j) P := rd_int (g := fun i j => i - j) p
theorem rd_pow {env : En} {P : PyData → Prop} {i j : Int} (hc : CPow i j) (p : P (.int (i ^ j.toNat))) : RD K rPow env (.int i) (.int j) P := rd_intC (C := CPow) (g := fun i j => i ^ j.toNat) hc p
theorem rd_inStr {env : En} {P : PyData → Prop} {i j : Str} (p : P (.bool (!(Builtin.Str.occurrences j i 0 j.length 1).isEmpty))) : RD K rInStr env (.str i) (.str j) P := rd_inS p
theorem ev_un (h : EvE K te env fun e1 d => ∃ i : Int, d = .int i ∧ P e1 (.int (-i))) : EvE K (tUn rNeg te) env P := fun B σ G H Q I q =>
  h B σ G H _ I fun x G1 H1 e1 d1 p1 x1 I1 r1 => by
    obtain ⟨i, rfl, hp⟩ := p1
    cases r1
    exact ⟨i, rfl, q _ G1 H1 e1 _ hp x1 I1 (.int _)⟩
end
section
variable {X : Cx} {a b c : Expr} {ta tb tc : TE} {pos : Pos}
theorem pe_plus (ha : PE X a ta) (hb : PE X b tb) : PE X (.BinOp a .Add b pos) (tOp (rPlus X.K) ta tb) := pe_op op_plus ha hb
theorem pe_minus (ha : PE X a ta) (hb : PE X b tb) : PE X (.BinOp a .Sub b pos) (tOp rMinus ta tb) := pe_op op_minus ha hb
theorem pe_times (ha : PE X a ta) (hb : PE X b tb) : PE X (.BinOp a .Mult b pos) (tOp (rTimes X.K) ta tb) := pe_op op_times ha hb
theorem pe_rest (ha : PE X a ta) (hb : PE X b tb) : PE X (.BinOp a .Mod b pos) (tOp rMod ta tb) := pe_op op_rest ha hb
theorem pe_over (ha : PE X a ta) (hb : PE X b tb) : PE X (.BinOp a .FloorDiv b pos) (tOp rOver ta tb) := pe_op op_over ha hb
theorem pe_power (ha : PE X a ta) (hb : PE X b tb) : PE X (.BinOp a .Pow b pos) (tOp rPow ta tb) := pe_op op_power ha hb
theorem pe_neg (ha : PE X a ta) : PE X (.UnaryOp .USub a pos) (tUn rNeg ta) := pe_un un_minus ha
theorem pe_lt (ha : PE X a ta) (hb : PE X b tb) : PE X (.Compare a [.Lt] [b] pos) (tOp rLt ta tb) := pe_cmpR op_lt' ha hb (nomark _)
theorem pt_lt (ha : PE X a ta) (hb : PE X b tb) : PT X (.Compare a [.Lt] [b] pos) (tTest (tOp rLt ta tb)) := pt_cmpR op_lt' ha hb (nomark _)
theorem pe_le (ha : PE X a ta) (hb : PE X b tb) : PE X (.Compare a [.LtE] [b] pos) (tOp rLe ta tb) := pe_cmpR op_leAny ha hb (nomark _)
theorem pt_le (ha : PE X a ta) (hb : PE X b tb) : PT X (.Compare a [.LtE] [b] pos) (tTest (tOp rLe ta tb)) := pt_cmpR op_leAny ha hb (nomark _)
theorem pe_gt (ha : PE X a ta) (hb : PE X b tb) : PE X (.Compare a [.Gt] [b] pos) (tOp rGt ta tb) := pe_cmpR op_gt' ha hb (nomark _)
theorem pt_gt (ha : PE X a ta) (hb : PE X b tb) : PT X (.Compare a [.Gt] [b] pos) (tTest (tOp rGt ta tb)) := pt_cmpR op_gt' ha hb (nomark _)
theorem pe_ge (ha : PE X a ta) (hb : PE X b tb) : PE X (.Compare a [.GtE] [b] pos) (tOp rGe ta tb) := pe_cmpR op_ge' ha hb (nomark _)
theorem pt_ge (ha : PE X a ta) (hb : PE X b tb) : PT X (.Compare a [.GtE] [b] pos) (tTest (tOp rGe ta tb)) := pt_cmpR op_ge' ha hb (nomark _)
theorem pe_is (ha : PE X a ta) (hb : PE X b tb) : PE X (.Compare a [.Is] [b] pos) (tOp rIsAny ta tb) := pe_cmpR op_isAny ha hb (nomark _)
theorem pt_is (ha : PE X a ta) (hb : PE X b tb) : PT X (.Compare a [.Is] [b] pos) (tTest (tOp rIsAny ta tb)) := pt_cmpR op_isAny ha hb (nomark _)
theorem pe_isnt (ha : PE X a ta) (hb : PE X b tb) : PE X (.Compare a [.IsNot] [b] pos) (tOp rIsNotAny ta tb) := pe_cmpR op_isNotAny ha hb (nomark _)
theorem pt_isnt (ha : PE X a ta) (hb : PE X b tb) : PT X (.Compare a [.IsNot] [b] pos) (tTest (tOp rIsNotAny ta tb)) := pt_cmpR op_isNotAny ha hb (nomark _)
theorem pe_eq {k : Nat} (hr : Room k X.A) (ha : PE X a ta) (hb : PE X b tb) : PE X (.Compare a [.Eq] [b] pos) (tOp (rEqD X.K) ta tb) := pe_cmpR (op_eqD (Room.u64 hr)) ha hb (nomark _)
theorem pt_eq {k : Nat} (hr : Room k X.A) (ha : PE X a ta) (hb : PE X b tb) : PT X (.Compare a [.Eq] [b] pos) (tTest (tOp (rEqD X.K) ta tb)) := pt_cmpR (op_eqD (Room.u64 hr)) ha hb (nomark _)
theorem pe_ne {k : Nat} (hr : Room k X.A) (ha : PE X a ta) (hb : PE X b tb) : PE X (.Compare a [.NotEq] [b] pos) (tOp (rNeD X.K) ta tb) := pe_cmpR (op_neD (Room.u64 hr)) ha hb (nomark _)
theorem pt_ne {k : Nat} (hr : Room k X.A) (ha : PE X a ta) (hb : PE X b tb) : PT X (.Compare a [.NotEq] [b] pos) (tTest (tOp (rNeD X.K) ta tb)) := pt_cmpR (op_neD (Room.u64 hr)) ha hb (nomark _)
theorem pe_ins (ha : PE X a ta) (hb : PE X b tb) (hm : behindInMarks .In b = false) : PE X (.Compare a [.In] [b] pos) (tOp rInStr ta tb) := pe_cmpR op_inStr ha hb hm
theorem pe_lele (ha : PE X a ta) (hb : PE X b tb) (hc : PE X c tc) (hm : lastMarks [.LtE, .LtE] [b, c] = false) : PE X (.Compare a [.LtE, .LtE] [b, c] pos) (tChain rLe rLe ta tb tc) := pe_chain op_leAny op_leAny ha hb hc hm
theorem pt_ins (ha : PE X a ta) (hb : PE X b tb) (hm : behindInMarks .In b = false) : PT X (.Compare a [.In] [b] pos) (tTest (tOp rInStr ta tb)) := pt_cmpR op_inStr ha hb hm
theorem pt_lele (ha : PE X a ta) (hb : PE X b tb) (hc : PE X c tc) (hm : lastMarks [.LtE, .LtE] [b, c] = false) : PT X (.Compare a [.LtE, .LtE] [b, c] pos) (tTest (tChain rLe rLe ta tb tc)) := pt_chain op_leAny op_leAny ha hb hc hm
end
section
variable {K : PySem.W.Frag} {env : En} {te : TE} {P : En → PyData → Prop} {i : Nat}
/-- [e for x in xs], e a function of x -/
theorem ev_map {wi : TI} (F : PyData → PyData) (h : EvI K wi env fun e1 xs => xs.length ≤ 100000 ∧ (∀ d, d ∈ xs → EvE K te (e1.set i (some (.dat d))) fun e4 y => e4 = e1.set i (some (.dat d)) ∧ y = F d) ∧ P (e1.set i none) (.list (xs.map F))) :
    EvE K (tLc wi (gName i) tYes te [i]) env P := ev_lc fun B σ G H R I q => h B σ G H R I fun J G1 H1 e1 xs p1 x1 I1 j => by
  obtain ⟨hl, he, hp⟩ := p1
  refine q J G1 H1 e1 xs ⟨fun m e acc => m ≤ xs.length ∧ e = e1.set i none ∧ acc = (xs.take m).map F, ⟨Nat.zero_le _, rfl, rfl⟩, ?_, ?_⟩ x1 I1 j
  · rintro m d e acc hm ⟨h1, rfl, rfl⟩
    have lt : m < xs.length := (List.getElem?_eq_some_iff.mp hm).1
    refine ⟨?_, eb_yes ⟨fun _ => ?_, fun z => by cases z⟩⟩
    · rw [List.length_map, List.length_take]
      exact Nat.lt_of_lt_of_le (Nat.lt_of_le_of_lt (Nat.min_le_left _ _) lt) (Nat.le_trans hl (by decide))
    · rw [List.set_set]
      refine (he d (List.mem_of_getElem? hm)).imp ?_
      rintro e4 y ⟨rfl, rfl⟩
      refine ⟨lt, by rw [List.set_set], ?_⟩
      rw [List.take_add_one, hm, List.map_append]
      rfl
  · rintro e acc ⟨_, rfl, rfl⟩
    rw [List.set_set, List.take_length]
    exact hp
/-- [x for x in xs if t], t a test of x -/
theorem ev_filter {wi : TI} {tt : TT} (p : PyData → Bool) (h : EvI K wi env fun e1 xs => xs.length ≤ 100000 ∧ i < e1.length ∧ (∀ d, d ∈ xs → EvB K tt (e1.set i (some (.dat d))) fun e4 b => e4 = e1.set i (some (.dat d)) ∧ b = p d) ∧ P (e1.set i none) (.list (xs.filter p))) :
    EvE K (tLc wi (gName i) tt (tVar i) [i]) env P := ev_lc fun B σ G H R I q => h B σ G H R I fun J G1 H1 e1 xs p1 x1 I1 j => by
  obtain ⟨hl, hi, he, hp⟩ := p1
  refine q J G1 H1 e1 xs ⟨fun m e acc => m ≤ xs.length ∧ e = e1.set i none ∧ acc = (xs.take m).filter p, ⟨Nat.zero_le _, rfl, rfl⟩, ?_, ?_⟩ x1 I1 j
  · rintro m d e acc hm ⟨h1, rfl, rfl⟩
    have lt : m < xs.length := (List.getElem?_eq_some_iff.mp hm).1
    have tk : xs.take (m + 1) = xs.take m ++ [d] := by rw [List.take_add_one, hm]; rfl
    refine ⟨?_, ?_⟩
    · refine Nat.lt_of_le_of_lt (List.length_filter_le _ _) ?_
      rw [List.length_take]
      exact Nat.lt_of_lt_of_le (Nat.lt_of_le_of_lt (Nat.min_le_left _ _) lt) (Nat.le_trans hl (by decide))
    · rw [List.set_set]
      intro B2 σ2 G2 H2 Q2 I2 q2
      refine he d (List.mem_of_getElem? hm) B2 σ2 G2 H2 Q2 I2 fun b G3 H3 e3 p3 x3 I3 => q2 b G3 H3 e3 ?_ x3 I3
      obtain ⟨rfl, rfl⟩ := p3
      refine ⟨fun hb => ?_, fun hb => ?_⟩
      · refine ev_var (d := d) (by rw [List.getElem?_set_self hi]) ⟨lt, by rw [List.set_set], ?_⟩
        rw [tk, List.filter_append, List.filter_cons_of_pos hb]; rfl
      · refine ⟨lt, by rw [List.set_set], ?_⟩
        rw [tk, List.filter_append, List.filter_cons_of_neg (by rw [hb]; exact Bool.false_ne_true), List.filter_nil, List.append_nil]
  · rintro e acc ⟨_, rfl, rfl⟩
    rw [List.set_set, List.take_length]
    exact hp
end
/-- a promise: the answer is F of the arguments -/
abbrev spF (n : Nat) (pre : List PyData → Prop) (F : List PyData → PyData) : Sp := spD n pre fun ds r => r = F ds
section
variable {K : PySem.W.Frag} {env : En} {P : En → PyData → Prop} {ta : TA} {pre : List PyData → Prop} {n : Nat} {F : List PyData → PyData}
theorem ev_callF (h : EvAs K ta env fun e1 ds => ds.length = n ∧ pre ds ∧ P e1 (F ds)) : EvE K (tCB (callOf (spD n pre fun ds r => r = F ds)) ta) env P :=
  ev_call fun B σ G H Q I q => h B σ G H Q I fun vs G1 H1 e1 ds p1 x1 I1 r1 => q vs G1 H1 e1 ds ⟨p1.1, p1.2.1, fun d hd => hd ▸ p1.2.2⟩ x1 I1 r1
end
/-- == and != of data; of texts without a look at their signs -/
def rEqA (K : PySem.W.Frag) : R2 := fun x y H Q => rEqD K x y H Q ∨ rEq x y H Q
def rNeA (K : PySem.W.Frag) : R2 := fun x y H Q => rNeD K x y H Q ∨ rNe x y H Q
section
variable {X : Cx} {a b : Expr} {ta tb : TE} {pos : Pos}
theorem pe_eqA {k : Nat} (hr : Room k X.A) (ha : PE X a ta) (hb : PE X b tb) : PE X (.Compare a [.Eq] [b] pos) (tOp (rEqA X.K) ta tb) := pe_cmpR ((op_eqD (Room.u64 hr)).or op_eq) ha hb (nomark _)
theorem pt_eqA {k : Nat} (hr : Room k X.A) (ha : PE X a ta) (hb : PE X b tb) : PT X (.Compare a [.Eq] [b] pos) (tTest (tOp (rEqA X.K) ta tb)) := pt_cmpR ((op_eqD (Room.u64 hr)).or op_eq) ha hb (nomark _)
theorem pe_neA {k : Nat} (hr : Room k X.A) (ha : PE X a ta) (hb : PE X b tb) : PE X (.Compare a [.NotEq] [b] pos) (tOp (rNeA X.K) ta tb) := pe_cmpR ((op_neD (Room.u64 hr)).or op_ne) ha hb (nomark _)
theorem pt_neA {k : Nat} (hr : Room k X.A) (ha : PE X a ta) (hb : PE X b tb) : PT X (.Compare a [.NotEq] [b] pos) (tTest (tOp (rNeA X.K) ta tb)) := pt_cmpR ((op_neD (Room.u64 hr)).or op_ne) ha hb (nomark _)
variable {K : PySem.W.Frag} {env : En} {P : PyData → Prop}
theorem rd_eqA {d e : PyData} (hd : eqOk d = true) (he : eqOk e = true) (p : P (.bool (PyData.eqv d e))) : RD K (rEqA K) env d e P := fun B σ G H x y Q I rx ry q => .inl (rd_eq hd he p B σ G H x y Q I rx ry q)
theorem rd_neA {d e : PyData} (hd : eqOk d = true) (he : eqOk e = true) (p : P (.bool (!PyData.eqv d e))) : RD K (rNeA K) env d e P := fun B σ G H x y Q I rx ry q => .inl (rd_ne hd he p B σ G H x y Q I rx ry q)
theorem rd_eqS {d e : Str} (p : P (.bool (decide (d = e)))) : RD K (rEqA K) env (.str d) (.str e) P := fun B σ G H x y Q I rx ry q => by
  cases rx; cases ry
  refine .inr ⟨rfl, ?_⟩
  have h : decide (V.str d = V.str e) = decide (d = e) := by
    by_cases z : d = e
    · subst z; simp
    · rw [decide_eq_false z, decide_eq_false (fun w => z (V.str.inj w))]
  rw [h]
  exact q _ G H _ p (Ex.refl G) I (.bl _)
theorem rd_neS {d e : Str} (p : P (.bool (!decide (d = e)))) : RD K (rNeA K) env (.str d) (.str e) P := fun B σ G H x y Q I rx ry q => by
  cases rx; cases ry
  refine .inr ⟨rfl, ?_⟩
  have h : decide (V.str d = V.str e) = decide (d = e) := by
    by_cases z : d = e
    · subst z; simp
    · rw [decide_eq_false z, decide_eq_false (fun w => z (V.str.inj w))]
  rw [h]
  exact q _ G H _ p (Ex.refl G) I (.bl _)
end
/-- which written part is meant -/
structure KMark (K : PySem.W.Frag) : Prop where
  mk ::
section
variable {X : Cx} {K : PySem.W.Frag} {a b c e : Expr} {ta tb tc te : TE} {pos : Pos}
theorem km_plus (m : KMark K) (hK : X.K = K) (ha : PE X a ta) (hb : PE X b tb) : PE X (.BinOp a .Add b pos) (tOp (rPlus K) ta tb) := by
  subst hK
  exact pe_plus ha hb
theorem km_times (m : KMark K) (hK : X.K = K) (ha : PE X a ta) (hb : PE X b tb) : PE X (.BinOp a .Mult b pos) (tOp (rTimes K) ta tb) := by
  subst hK
  exact pe_times ha hb
theorem km_pe_eq (m : KMark K) (hK : X.K = K) {k : Nat} (hr : Room k X.A) (ha : PE X a ta) (hb : PE X b tb) : PE X (.Compare a [.Eq] [b] pos) (tOp (rEqA K) ta tb) := by
  subst hK
  exact pe_eqA hr ha hb
theorem km_pt_eq (m : KMark K) (hK : X.K = K) {k : Nat} (hr : Room k X.A) (ha : PE X a ta) (hb : PE X b tb) : PT X (.Compare a [.Eq] [b] pos) (tTest (tOp (rEqA K) ta tb)) := by
  subst hK
  exact pt_eqA hr ha hb
theorem km_pe_ne (m : KMark K) (hK : X.K = K) {k : Nat} (hr : Room k X.A) (ha : PE X a ta) (hb : PE X b tb) : PE X (.Compare a [.NotEq] [b] pos) (tOp (rNeA K) ta tb) := by
  subst hK
  exact pe_neA hr ha hb
theorem km_pt_ne (m : KMark K) (hK : X.K = K) {k : Nat} (hr : Room k X.A) (ha : PE X a ta) (hb : PE X b tb) : PT X (.Compare a [.NotEq] [b] pos) (tTest (tOp (rNeA K) ta tb)) := by
  subst hK
  exact pt_neA hr ha hb
theorem km_slice (m : KMark K) (hK : X.K = K) {lo hi : Option Expr} {tl th : TO} {p2 : Pos} (he : PE X e te) (hl : PO X lo tl) (hh : PO X hi th) : PE X (.Subscript e (.Slice lo hi none p2) pos) (tSl (rSlice K) te tl th) := by
  subst hK
  exact pe_slice sl_any he hl hh
theorem km_ix (m : KMark K) (hK : X.K = K) (ha : PE X a ta) (hb : PE X b tb) (hs : PlainIx b) : PE X (.Subscript a b pos) (tOp (rIx K) ta tb) := by
  subst hK
  exact pe_ix ix_seq ha hb hs
theorem km_isi (m : KMark K) (hK : X.K = K) {n : String} {nm : Str} {p p2 : Pos} (bi : Bi X.mg) (hm : X.mg nm = none) (hv : bootBuiltins nm = some (.type n)) (hg : Gl X "isinstance") (hg2 : Gl X nm) (he : PE X e te)
    (h1 : starEach [e, .Name nm p2] X.env = (false, eval e X.env) :: starEach [.Name nm p2] X.env) (h2 : starEach [.Name nm p2] X.env = (false, eval (.Name nm p2) X.env) :: starEach [] X.env)
    (hpl : (backTo pos (starEach [.Name nm p2] X.env)).any (·.1) = false) (hn : nm ≠ "__name__") (hd : (nm == ("__debug__" : Str)) = false) : PE X (.Call (.Name "isinstance" p) [e, .Name nm p2] [] pos) (tCB (rIsi K) (tCons te (tCons (tC (.ty n)) tNil))) := by
  subst hK
  exact pe_isi bi hm hv hg hg2 he h1 h2 hpl hn hd
theorem km_len (m : KMark K) (hK : X.K = K) {es : List Expr} {t : TA} {p : Pos} (hg : Gl X "len") (hm : X.mg "len" = none) (ha : PA X (e :: es) t) (he : starEach (e :: es) X.env = (false, eval e X.env) :: starEach es X.env) (hpl : (backTo pos (starEach es X.env)).any (·.1) = false) : PE X (.Call (.Name "len" p) (e :: es) [] pos) (tCB (rLen K) t) := by
  subst hK
  exact pe_callB (x := "len") cl_len hg hm bLen ha (by decide) (by decide) he hpl
theorem km_all (m : KMark K) (hK : X.K = K) (hc : X.calm = true) {es : List Expr} {t : TA} {p : Pos} (hg : Gl X "all") (hm : X.mg "all" = none) (ha : PA X (e :: es) t) (he : starEach (e :: es) X.env = (false, eval e X.env) :: starEach es X.env) (hpl : (backTo pos (starEach es X.env)).any (·.1) = false) : PE X (.Call (.Name "all" p) (e :: es) [] pos) (tCB (rAll K) t) := by
  subst hK
  exact pe_callB (x := "all") (cr_all hc) hg hm bAll ha (by decide) (by decide) he hpl
theorem km_repr (m : KMark K) (hK : X.K = K) {k : Nat} (hr : Room k X.A) (hg0 : X.A.guards = some []) {es : List Expr} {t : TA} {p : Pos} (hg : Gl X "repr") (hm : X.mg "repr" = none) (ha : PA X (e :: es) t) (he : starEach (e :: es) X.env = (false, eval e X.env) :: starEach es X.env) (hpl : (backTo pos (starEach es X.env)).any (·.1) = false) : PE X (.Call (.Name "repr" p) (e :: es) [] pos) (tCB (rRepr K) t) := by
  subst hK
  exact pe_callB (x := "repr") (call_repr hr hg0) hg hm bRepr ha (by decide) (by decide) he hpl
theorem km_sum (m : KMark K) (hK : X.K = K) (hc : X.calm = true) {es : List Expr} {t : TA} {p : Pos} (hg : Gl X "sum") (hm : X.mg "sum" = none) (ha : PA X (e :: es) t) (he : starEach (e :: es) X.env = (false, eval e X.env) :: starEach es X.env) (hpl : (backTo pos (starEach es X.env)).any (·.1) = false) : PE X (.Call (.Name "sum" p) (e :: es) [] pos) (tCB (rSum K) t) := by
  subst hK
  exact pe_callB (x := "sum") (cr_sum hc) hg hm bSum ha (by decide) (by decide) he hpl
theorem km_tuple (m : KMark K) (hK : X.K = K) {es : List Expr} {t : TA} {p : Pos} (hg : Gl X "tuple") (hm : X.mg "tuple" = none) (ha : PA X (e :: es) t) (he : starEach (e :: es) X.env = (false, eval e X.env) :: starEach es X.env) (hpl : (backTo pos (starEach es X.env)).any (·.1) = false) : PE X (.Call (.Name "tuple" p) (e :: es) [] pos) (tCB (rTuple K) t) := by
  subst hK
  exact pe_callTy (x := "tuple") cl_tuple hg hm bTuple ha (by decide) (by decide) he hpl
theorem km_revT (m : KMark K) (hK : X.K = K) {k : Nat} {p1 p2 p3 : Pos} (he : PE X e te) : PE X (.Subscript e (.Slice none none (some (.UnaryOp .USub (.Constant (.int 1) k p1) p2)) p3) pos) (tRevT K te) := by
  subst hK
  exact pe_revT he
theorem km_list (m : KMark K) (hK : X.K = K) {tg : Expr} (hl : PE X e te) : PI X tg e (iList K te) := by
  subst hK
  exact pi_list hl
theorem km_tup (m : KMark K) (hK : X.K = K) {tg : Expr} (hl : PE X e te) : PI X tg e (iTup K te) := by
  subst hK
  exact pi_tup hl
theorem km_gtup (m : KMark K) (hK : X.K = K) {es : List Expr} {k : Nat} {t : TGs} {n : Nat} (hc : X.calm = true) (h : PGs X es t) (hn : (assignEach es X.env).length = n) (hst : (assignEach es X.env).findIdx? (·.1) = none) : PG X (.Tuple es k pos) (gTup K n t) := by
  subst hK
  exact pg_tup hc h hn hst
end
theorem rc_allM {K : PySem.W.Frag} {env : En} {P : PyData → Prop} {es : List PyData} {p : PyData → Bool} (h : P (.bool (es.all p))) : RC K (rAll K) env [.list (es.map fun d => .bool (p d))] P := by
  have e : (es.map fun d => PyData.bool (p d)) = (es.map p).map .bool := by rw [List.map_map]; rfl
  rw [e]
  refine rc_all ?_
  rw [List.all_map]
  exact h
theorem pe_disp1 {X : Cx} {x : Str} {j : Int} {k1 k2 : Nat} {p1 p2 pos : Pos} : PE X (.Dict [some (.Constant (.str x) k1 p1)] [.Constant (.int j) k2 p2] pos) (tDisp [(tC (.str x), tC (.int j))]) :=
  pe_disp (pps_cons pe_str pe_int pps_nil) rfl rfl (fun z => by cases z) (Nat.le_of_ble_eq_true rfl)
theorem fm (a : Int) {m : Int} (h : 0 < m ∧ m ≤ 2 ^ 64) : -(2 ^ 64) < a.fmod m ∧ a.fmod m < 2 ^ 64 := by
  have h1 := Int.fmod_nonneg_of_pos a h.1
  have h2 := Int.fmod_lt_of_pos a h.1
  omega
/-! ### the pile -/
section
variable {K : PySem.W.Frag} {env : En} {P : En → PyData → Prop} {O : Outs} {i : Nat} {p : Addr}
theorem ev_pix {tb : TE} (hi : env[i]? = some (some (.pile p))) (h : EvE K tb env fun e1 d => e1[i]? = some (some (.pile p)) ∧ ∃ j : Nat, d = .int j ∧ j < 3 ∧ ∀ z, P e1 (.int z)) : EvE K (tOp (rIx K) (tVar i) tb) env P := fun B σ G H Q I q => by
  obtain ⟨v, h1, rfl, _⟩ := I.sl i _ hi
  refine ⟨_, h1, ?_⟩
  refine h B σ G H _ I fun y G1 H1 e1 d1 p1 x1 I1 r1 => ?_
  obtain ⟨h2, j, rfl, hj, hp⟩ := p1
  cases r1
  obtain ⟨_, _, _, _, a, b, c, hl⟩ := I1.sl i _ h2
  have go : ∀ z, ([V.int a, .int b, .int c])[j]? = some (.int z) → rIx K (.ref p) (.int (j : Int)) H1 Q := fun z hz => .inl ⟨p, _, _, _, rfl, rfl, SqL.of hl, atI_nat hz, q _ G1 H1 e1 _ (hp z) x1 I1 (.int z)⟩
  match j, hj with
  | 0, _ => exact go a rfl
  | 1, _ => exact go b rfl
  | 2, _ => exact go c rfl
theorem es_pput {te ti : TE} (h : EvE K te env fun e1 d => (∃ z, d = .int z) ∧ (∃ p, e1[i]? = some (some (.pile p))) ∧ EvE K ti e1 fun e2 k => e2 = e1 ∧ (∃ j : Nat, k = .int j ∧ j < 3) ∧ O.nx e1) : EvS K (tAsg te (gSub (tVar i) ti rSetL)) env O := fun B σ G H D I a b c d f => by
  refine h B σ G H _ I fun y G1 H1 e1 d1 p1 x1 I1 r1 => ?_
  obtain ⟨⟨z, rfl⟩, ⟨p, hi⟩, p1⟩ := p1
  cases r1
  obtain ⟨v, h1, rfl, _⟩ := I1.sl i _ hi
  refine ⟨_, h1, ?_⟩
  refine p1 B σ G1 H1 _ I1 fun k G2 H2 e2 kd p2 x2 I2 r2 => ?_
  obtain ⟨rfl, ⟨j, rfl, hj⟩, hn⟩ := p2
  cases r2
  obtain ⟨_, _, _, g2, a0, b0, c0, hl⟩ := I2.sl i _ hi
  have e : env.length = env.length := rfl
  have go : ∀ xs : List V, (∃ a b c : Int, xs = [.int a, .int b, .int c]) → D.nx σ (upd H2 p (.lst xs)) := fun xs ⟨a1, b1, c1, hx⟩ => by
    have := I2.put (s' := .pile p) (o := .lst xs) hi rfl rfl rfl ⟨rfl, g2, a1, b1, c1, by rw [hx]; exact upd_same⟩
    rw [set_same hi] at this
    exact a σ G2 _ _ hn (x1.trans x2) this
  refine ⟨p, _, (j : Int), j, rfl, rfl, hl, ?_, ?_⟩
  · unfold ixN
    rw [if_pos (Int.natCast_nonneg j), if_pos (by show (j : Int) < ((3 : Nat) : Int); omega), Int.toNat_natCast]
  · match j, hj with
    | 0, _ => exact go _ ⟨z, b0, c0, rfl⟩
    | 1, _ => exact go _ ⟨a0, z, c0, rfl⟩
    | 2, _ => exact go _ ⟨a0, b0, z, rfl⟩
end
theorem km_append {X : Cx} {K : PySem.W.Frag} (m : KMark K) (hK : X.K = K) {o e : Expr} {te : TE} {t : TA} {apos cpos : Pos} (ho : PE X o te) (ha : PA X [e] t)
    (h1 : attributeBase o "append" X.env (eval o X.env) = eval o X.env)
    (h2 : ((backTo cpos (starEach [e] X.env)).all (fun x => !x.1) && (backToKw cpos (keywordEach [] X.env)).all (fun x => x.1.isSome) && decide (([e] : List Expr).length + ([] : List Keyword).length + (if ([] : List Keyword).isEmpty then 0 else 1) < 30)) = true)
    (h3 : (apos.endLine == cpos.line) = true) (h4 : starEach [e] X.env = (false, eval e X.env) :: starEach [] X.env) (h5 : (backTo cpos (starEach [] X.env)).any (·.1) = false) :
    PE X (.Call (.Attribute o "append" apos) [e] [] cpos) (tBM K "list" rAppend te t) := by
  subst hK
  exact pe_bm PySem.F.plainAttrs_list PySem.F.slot_list_append PySem.F.type_list_append mt_append ho ha h1 h2 h3 h4 h5
end FD

set_option Elab.async false
set_option linter.all false
set_option maxRecDepth 100000
set_option maxHeartbeats 2000000
namespace FD
open PySem PySem.Spec PyProof.Rows L2
/-- y = [elt for x in iter if ..] -/
theorem ps_lc1 {X : Cx} {N : List Str} {i j : Nat} {x y : Str} {px py : Pos} {elt iter : Expr} {ifs : List Expr} {scope : Scope} {pos spos : Pos} {wi : TI} {tt : TT} {te : TE} (hc : X.calm = true) (hN : X.N.Nodup) (hj : N[j]? = some y) (hX : X.N = N)
    (hy : X.env.scope.names.lookup y = some .local) (hf : X.env.scope.kind = .function) (hl : (py.line == pos.line) = true) (ha : (scope.names.any fun (n, k) => n == y && (k == .local || k == .cell)) = false)
    (hg : ∀ (s : Shared) (H : Hp) (C : Addr) (cl : List (Str × Addr)) (fp : List Addr), PG (X.blk s H scope (compEnvC scope cl C X.env) fp) (.Name x px) (gName i))
    (ok : blkC X.N X.env.scope scope [(x, i)] = true) (hi : PI X (.Name x px) iter wi)
    (ht : ∀ (s : Shared) (H : Hp) (C : Addr) (cl : List (Str × Addr)) (fp : List Addr), PTs (X.blk s H scope (compEnvC scope cl C X.env) fp) ifs tt)
    (he : ∀ (s : Shared) (H : Hp) (C : Addr) (cl : List (Str × Addr)) (fp : List Addr), PE (X.blk s H scope (compEnvC scope cl C X.env) fp) elt te)
    (hs : ∀ z, foldedSetIterable iter X.env z = pure z) :
    PS X (.Assign [.Name y py] (.ListComp elt [⟨.Name x px, iter, ifs, 0⟩] scope pos) spos) (tAsg (tLc wi (gName i) tt te [i]) (gName j)) :=
  ps_setLc (own := [(x, i)]) (g := gName i) hc hN (by rw [hX]; exact hj) hy (sw_true hf hy hl ha) hi (blkOk_by ok) hg ht he hs
end FD

set_option Elab.async false
set_option linter.all false
set_option maxRecDepth 100000
set_option maxHeartbeats 2000000
namespace FD
open PySem PySem.Spec PyProof.Rows L2
/-- x stands in y -/
def inS (i j : Str) : Bool := !(Builtin.Str.occurrences j i 0 j.length 1).isEmpty
section
variable {X : Cx} {a b : Expr} {ta tb : TE} {pos : Pos}
def rNinStr : R2 := fun x y H Q => ∃ i j, x = .str i ∧ y = .str j ∧ Q (.bl (!(!(Builtin.Str.occurrences j i 0 j.length 1).isEmpty))) H
theorem pe_nins (ha : PE X a ta) (hb : PE X b tb) (hm : behindInMarks .NotIn b = false) : PE X (.Compare a [.NotIn] [b] pos) (tOp rNinStr ta tb) := pe_cmpR op_notin_str ha hb hm
theorem pt_nins (ha : PE X a ta) (hb : PE X b tb) (hm : behindInMarks .NotIn b = false) : PT X (.Compare a [.NotIn] [b] pos) (tTest (tOp rNinStr ta tb)) := pt_cmpR op_notin_str ha hb hm
end
section
variable {K : PySem.W.Frag} {env : En} {P : PyData → Prop}
theorem rd_ninStr {i j : Str} (p : P (.bool (!inS i j))) : RD K rNinStr env (.str i) (.str j) P := fun B σ G H x y Q I rx ry q => by
  cases rx; cases ry
  exact ⟨_, _, rfl, rfl, q _ G H _ p (Ex.refl G) I (.bl _)⟩
end
end FD

set_option Elab.async false
set_option linter.all false
set_option maxRecDepth 100000
set_option maxHeartbeats 2000000
namespace FD
open PySem PySem.Spec PySem.Calls PyProof.Rows L2
section
variable {prog : Program} {w : World} {A : Around} {E : Value → Shared → Prop} {s : Shared} {x : Str} {t : Tok}
theorem lx_hint {Q : Bool → Shared → Prop} (q : Q false s) : wpAny (model prog w) A (Builtin.List.listLengthHint (.str x t)) Q E s := by
  have ty : s.TypeIs (.str x t) "str" := typeIs_str s x t
  unfold Builtin.List.listLengthHint
  refine wpAny_bind (wpAny_specialOf ty PySem.F.slot_str_len.lookup ?_)
  generalize nm : ("str.__len__" : String) = n0
  wp_delta
  rw [show splitId n0 = some ("str", "__len__") from by subst nm; decide +kernel]
  subst nm
  refine wpAny_bind (wpAny_isInstance (T := "str") (b := true) ty (by rw [isSubtype_type]; kernel_rfl) ?_)
  refine wpAny_ite_split (fun z => absurd z (by decide)) (fun _ => ?_)
  refine wpAny_ite_split (fun _ => ?_) (fun z => absurd (by decide +kernel) z)
  refine wpAny_bind (wpAny_typeOf ty ?_)
  exact wpAny_pure q
theorem lx_ext {R : Result → Shared → Prop} (calm : A.handled = none) (L : Addr) (res : Value) (c0 : Nat) (at_ : s.heap.get? L = some { cls := .type "list", data := .seq #[] c0 })
    (fin : ∀ h tk xs c, (∀ b o, b ≠ L → s.heap.get? b = some o → h.get? b = some o) → h.get? L = some { cls := .type "list", dict := none, data := .seq xs c, slots := #[] } → ItemsOf (SignAt x) xs x.cps.size → R (.ok (.ret res)) { s with heap := h, toks := tk }) (small : x.cps.size ≤ sizeLine) :
    wpAny (model prog w) A.in1 (Builtin.List.listExtendWith (.ref L) (.str x t) res)
      (fun f s' => match f with | .done f => R (.ok f) s' | .again c => c.quiet = true ∧ codeAny (model prog w) A c R s') (fun e s' => R (.error e) s') s := by
  have ty : s.TypeIs (.str x t) "str" := typeIs_str s x t
  have LI : L ≠ s.heap.objs.size := Nat.ne_of_lt (Heap.lt_size at_)
  have off : L ∉ [s.heap.objs.size] := by simpa using LI
  unfold Builtin.List.listExtendWith
  refine wpAny_bind (wpAny_typeOf (T := "str") ty ?_)
  have h1 : Builtin.List.listSameRef (.ref L) (.str x t) = false := by rfl
  have h2 : (Value.type "str" == Value.type "list") = false := by decide
  have h3 : (Value.type "str" == Value.type "tuple") = false := by decide
  simp only [h1, h2, h3, Bool.or_false, Bool.false_eq_true, if_false]
  refine wpAny_bind (wpAny_pyIter_str fun o St W st => ?_)
  have W := W A.in1 calm
  have key : ∀ (h : Heap) (c1 tk : Nat), St 0 h → (∀ b o, b ≠ L → s.heap.get? b = some o → h.get? b = some o) →
      h.get? L = some { cls := .type "list", data := .seq #[] c1 } → codeAny (model prog w) A (.builtin "list.extend.loop" ⟨[.ref L, .ref s.heap.objs.size, res], []⟩) R { s with heap := h, toks := tk } := by
    intro h c1 tk s0 old l1
    refine codeAny_extend_loopS W.toS small L off res _ 0 _ #[] c1 rfl (Nat.zero_le _) s0 l1 (ItemsOf.nil _) fun s2 xs c mv l2 its => ?_
    rw [Moved.eq_with mv]
    refine fin s2.heap s2.toks xs c (fun b o hb e => mv.heap b o (fun hm => ?_) (old b o hb e)) l2 its
    rcases List.mem_cons.mp hm with z | hm
    · exact hb z
    · exact absurd (Heap.lt_size e) (by rw [List.mem_singleton.mp hm]; exact Nat.lt_irrefl _)
  have l1 := Heap.get?_push_of_some o at_
  refine wpAny_bind (wpAny_holding (lx_hint ?_))
  refine wpAny_ite_split (fun _ => ?_) (fun _ => wpAny_pure ⟨plainId_quiet PySem.F.plain_extend_loop _, key _ c0 _ st (fun b o _ e => Heap.get?_push_of_some _ e) l1⟩)
  refine wpAny_bind (wpAny_rule (wpAny_bind ?_))
  show wpAny _ _ (bind (updateSeq L (·.push .none)) fun _ => updateSeq L (·.pop)) _ _ _
  refine wpAny_bind (wpAny_updateSeq l1 rfl ?_)
  have l2 := Heap.get?_update_self (Obj.mapSeq (·.push Value.none)) l1 rfl
  refine wpAny_updateSeq (hz := by seq_fits) l2 rfl ?_
  have l3 := Heap.get?_update_self (Obj.mapSeq (·.pop)) l2 rfl
  refine wpAny_pure ⟨plainId_quiet PySem.F.plain_extend_loop _, key _ _ _ (W.frame 0 _ _ st fun b hb u e => ?_) (fun b u hb e => ?_) l3⟩
  · have hL : b ≠ L := fun z => off (z ▸ hb)
    exact (Heap.get?_update_other _ _ (Ne.symm hL)).trans ((Heap.get?_update_other _ _ (Ne.symm hL)).trans e)
  · exact (Heap.get?_update_other _ _ (Ne.symm hb)).trans ((Heap.get?_update_other _ _ (Ne.symm hb)).trans (Heap.get?_push_of_some _ e))
theorem lx_init {R : Result → Shared → Prop} (calm : A.handled = none) (L : Addr) (at_ : s.heap.get? L = some { cls := .type "list", data := .seq #[] })
    (fin : ∀ h tk xs c, (∀ b o, b ≠ L → s.heap.get? b = some o → h.get? b = some o) → h.get? L = some { cls := .type "list", dict := none, data := .seq xs c, slots := #[] } → ItemsOf (SignAt x) xs x.cps.size → R (.ok (.ret .none)) { s with heap := h, toks := tk }) (small : x.cps.size ≤ sizeLine) :
    wpAny (model prog w) A.in1 (Builtin.«list.__init__» ⟨[.ref L, .str x t], []⟩)
      (fun f s' => match f with | .done f => R (.ok f) s' | .again c => c.quiet = true ∧ codeAny (model prog w) A c R s') (fun e s' => R (.error e) s') s := by
  show wpAny _ _ (bind (Builtin.List.listItems (.ref L)) fun old => bind (Builtin.List.listUpdate (.ref L) (fun _ => #[])) fun _ => bind (letGo old.toList.reverse) fun _ => Builtin.List.listExtendWith (.ref L) (.str x t) .none) _ _ s
  refine wpAny_bind ?_
  unfold Builtin.List.listItems
  refine wpAny_bind (wpAny_seqItems at_ rfl (wpAny_pure ?_))
  show wpAny _ _ (bind (updateSeq L (fun _ => #[])) fun _ => bind (letGo (#[] : Array Value).toList.reverse) fun _ => Builtin.List.listExtendWith (.ref L) (.str x t) .none) _ _ s
  refine wpAny_bind (wpAny_updateSeq at_ rfl ?_)
  have l2 := Heap.get?_update_self (Obj.mapSeq (fun _ => (#[] : Array Value))) at_ rfl
  have old : ∀ b o, b ≠ L → s.heap.get? b = some o → (s.heap.update L (Obj.mapSeq (fun _ => (#[] : Array Value)))).get? b = some o := fun b o hb e => (Heap.get?_update_other _ _ (Ne.symm hb)).trans e
  refine wpAny_bind (wpAny_letGo ?_)
  exact lx_ext calm L .none _ l2 (fun h tk xs c k l3 its => fin h tk xs c (fun b o hb e => k b o hb (old b o hb e)) l3 its) small
theorem lx_call {Q : Value → Shared → Prop} (calm : A.handled = none) (small : x.cps.size ≤ sizeLine)
    (q : ∀ h tk xs c, (∀ b o, s.heap.get? b = some o → h.get? b = some o) → h.get? s.heap.objs.size = some { cls := .type "list", dict := none, data := .seq xs c, slots := #[] } → ItemsOf (SignAt x) xs x.cps.size → Q (.ref s.heap.objs.size) { s with heap := h, toks := tk }) :
    wpAny (model prog w) A (call (.type "list") [.str x t]) Q E s := by
  refine callType_codes (Q₁ := fun ob s1 => ob = .ref s.heap.objs.size ∧ s1 = { s with heap := s.heap.push { cls := .type "list", data := .seq #[] } }) PySem.F.called_list (PySem.F.typeCall_list_1 _) PySem.F.entry_list_init
    (code_list_new _ ⟨rfl, rfl⟩) fun ob s1 h1 => ?_
  obtain ⟨rfl, rfl⟩ := h1
  have l1 : (s.heap.push { cls := .type "list", data := .seq #[] }).get? s.heap.objs.size = some { cls := .type "list", data := .seq #[] } := Heap.get?_push_size _ rfl
  refine ⟨⟨_, l1, rfl⟩, PySem.F.args_list_init_2 _ _, lx_init (A := A.in1) calm _ l1 (fun h tk xs c k l2 its => ?_) small⟩
  exact ⟨rfl, q h tk xs c (fun b o e => k b o (Nat.ne_of_lt (Heap.lt_size e)) (Heap.get?_push_of_some _ e)) l2 its⟩
end
/-- list(text) -/
def rLstS : List V → Hp → VK → Prop := fun xs H Q => ∃ x : Str, xs = [.str x] ∧ x.length ≤ sizeLine ∧ ∀ q, H q = none → Q (.ref q) (upd H q (.lst (x.cps.toList.map fun c => V.str ⟨#[c]⟩)))
theorem cl_listS {X : Cx} (hc : X.calm = true) : CallR X (.type "list") rLstS := by
  intro pins s σ H xs us Q I r h
  obtain ⟨x, e, small, q⟩ := h
  subst e
  obtain ⟨u, eu, rx⟩ := vals1 r
  subst eu
  obtain ⟨t, rfl⟩ := rx
  refine lx_call (I.ok.hd hc) small fun h' tk zs c k l2 its => ?_
  refine ⟨.ref s.heap.objs.size, upd H s.heap.objs.size (.lst (x.cps.toList.map fun c => V.str ⟨#[c]⟩)), I.laid k (Nat.le_refl _) (show ObjOk X.prog X.w _ _ _ (.lst (x.cps.toList.map fun c => V.str ⟨#[c]⟩)) from ⟨?_, zs.toList, c, ?_, ?_⟩), rfl, q _ (I.hok.fresh (Nat.le_refl _))⟩
  · rw [List.length_map, Array.length_toList]; exact small
  · refine vals_of_at (by rw [List.length_map, Array.length_toList, Array.length_toList]; exact its.1.symm) fun j a b h1 h2 => ?_
    obtain ⟨d, u, hd, rfl⟩ := its.2 j b (by rw [← Array.getElem?_toList]; exact h2)
    rw [List.getElem?_map, Array.getElem?_toList, hd] at h1
    cases h1
    exact ⟨u, rfl⟩
  · rw [Array.toArray_toList]; exact l2
theorem signs_dd (G : Hp) : ∀ l : List Nat, DdAll G (l.map fun c => V.str ⟨#[c]⟩) (l.map fun c => PyData.str ⟨#[c]⟩)
  | [] => .nil
  | c :: l => .cons (.str _) (signs_dd G l)
theorem rc_listS {K : PySem.W.Frag} {env : En} {P : PyData → Prop} {x : Str} (hl : x.length ≤ sizeLine) (p : P (.list (FD.signs x))) : RC K rLstS env [.str x] P := fun B σ G H xs Q I rx q => by
  obtain ⟨y, rfl, h⟩ := rx.one
  cases h
  refine ⟨x, rfl, hl, fun l nl => ?_⟩
  have n := I.exH.fresh nl
  exact q _ _ _ _ p (Ex.new n) (I.new nl) (.lst upd_same ((signs_dd G _).ex (Ex.new n)))
/-- list(e), e a text -/
theorem pe_listS {X : Cx} {e : Expr} {es : List Expr} {ta : TA} {p pos : Pos} (hc : X.calm = true) (hg : Gl X "list") (hm : X.mg "list" = none) (ha : PA X (e :: es) ta)
    (he : starEach (e :: es) X.env = (false, eval e X.env) :: starEach es X.env) (hp : (backTo pos (starEach es X.env)).any (·.1) = false) : PE X (.Call (.Name "list" p) (e :: es) [] pos) (tCB rLstS ta) :=
  pe_callTy (x := "list") (cl_listS hc) hg hm bList ha (by decide) (by decide) he hp
end FD

set_option Elab.async false
set_option linter.all false
set_option maxRecDepth 100000
set_option maxHeartbeats 2000000
namespace FD
open PySem PySem.Spec PySem.Calls PySem.Froz PyProof.Rows L2
/-! sorted(set(x)) of a text of the letters a to z -/
theorem one_inj {a b : Nat} (h : sing a = sing b) : a = b := (List.cons.inj (congrArg (fun y : Str => y.cps.toList) h)).1
theorem one_mem {c : Nat} {cs : List Nat} : sing c ∈ cs.map sing ↔ c ∈ cs :=
  ⟨fun h => let ⟨_, hd, e⟩ := List.mem_map.mp h; one_inj e ▸ hd, fun h => List.mem_map.mpr ⟨c, h, rfl⟩⟩
/-- the payload holds the signs cs, each once, and its places rise -/
structure Pay (P : Program) (w : World) (D : SD) (cs : List Nat) : Prop where
  ok : TxOk P w D (cs.map sing)
  pm : (D.1.toList.map fun e => PyProof.Rows.strOf e.2).Perm (cs.map sing)
  ris : Ris D.2.2.place.toList
  led : w.params.followText "set-order" = true ∨ D.2.2.led = true
theorem tail_pm {ep : Nat} {es : Array (Int × Value)} {t : SetTable} {b : Bool} : (tailTx ep es t b).1.toList.Perm es.toList := by
  unfold tailTx
  split
  · exact relayAll_perm _ _ _
  · exact .refl _
theorem tail_ris {ep : Nat} {es : Array (Int × Value)} {t : SetTable} {b : Bool} (h : Ris t.place.toList) : Ris (tailTx ep es t b).2.2.place.toList := by
  unfold tailTx
  split
  · exact relayAll_ris _ _ _
  · exact h
theorem tail_led {ep : Nat} {es : Array (Int × Value)} {t : SetTable} {b : Bool} : (tailTx ep es t b).2.2.led = t.led := by
  unfold tailTx
  split
  · exact relayAll_led _ _ _
  · rfl
theorem off_place (t : SetTable) : (if t.plain = true then { t with plain := false } else t).place = t.place := by split <;> rfl
theorem off_led (t : SetTable) : (if t.plain = true then { t with plain := false } else t).led = t.led := by split <;> rfl
theorem Pay.add {P : Program} {w : World} {D : SD} {cs : List Nat} {c : Nat} (u : Tok) (R : Pay P w D cs) : Pay P w (addTx (hashStr w (sing c)) (.str (sing c) u) D) (c :: cs) := by
  obtain ⟨es, ep, t⟩ := D
  obtain ⟨a1, a2, a3, a4⟩ := R
  refine ⟨add_ok (k := sing c) u a1, ?_, tail_ris ?_, a4.imp id fun z => tail_led.trans ((off_led _).trans ((layNew_led t es (hashStr w (sing c)) (.str (sing c) u)).trans z))⟩
  · refine ((tail_pm.trans (layNew_perm t es (hashStr w (sing c)) (.str (sing c) u))).map _).trans ?_
    rw [Array.toList_push, List.map_append]
    exact (List.perm_append_singleton _ _).trans (a2.cons _)
  · rw [off_place]
    exact layNew_ris t es (hashStr w (sing c)) (.str (sing c) u) a3
section
variable {P : Program} {w : World} {A : Around} {E : Value → Shared → Prop} {s : Shared}
theorem Pay.again {a : Addr} {D : SD} {cs : List Nat} {c : Nat} {u : Tok} {Q : Bool → Shared → Prop} (at_ : s.heap.get? a = some (sObj "set" D)) (R : Pay P w D cs) (old : c ∈ cs) (few : cs.length < scanBound) (q : Q false s) :
    wpAny (model P w) A (setAddHashed a (.str (sing c) u) (hashStr w (sing c))) Q E s := by
  obtain ⟨es, ep, t⟩ := D
  have k1 : (PySem.strKind P w).is (sing c) (.str (sing c) u) = true := is_str _ u
  have k2 : ElemsOf (PySem.strKind P w) es.toList := R.ok.el
  have k3 : t.fits es.size = true := R.ok.fit
  have k4 : es.size < scanBound := by
    have z : es.size = (cs.map sing).length := R.ok.sz
    rw [z, List.length_map]; exact few
  obtain ⟨e, he, ke⟩ := (R.ok.mem (sing c)).mp (one_mem.mpr old)
  unfold setAddHashed setAddHashedIn
  refine wpAny_holding (wpAny_bind (wpAny_setState_of at_ (rfl : (sObj "set" (es, ep, t)).data = .set es ep t) k3 ?_))
  dsimp only
  rw [byScan_of rfl k4 k2, if_pos rfl]
  unfold setAddByScan
  refine wpAny_bind (wpAny_bind (wpAny_rule (wpAny_bind (wpAny_setScan_of (knd := PySem.strKind P w) (k := sing c) k1 at_ (rfl : (sObj "set" (es, ep, t)).data = .set es ep t) k3 k2 ?_))))
  cases f : List.findIdx? (fun e => (PySem.strKind P w).is (sing c) e.2) es.toList with
  | some j => exact wpAny_pure (wpAny_pure q)
  | none => exact absurd ke (by rw [List.findIdx?_eq_none_iff.mp f e he]; exact Bool.false_ne_true)
/-- the set at a holds just the signs that p tells -/
def SetAtS (P : Program) (w : World) (h : Heap) (a : Addr) (p : Nat → Prop) : Prop := ∃ D cs, h.get? a = some (sObj "set" D) ∧ Pay P w D cs ∧ cs.Nodup ∧ ∀ c, c ∈ cs ↔ p c
theorem SetAtS.keep {h h' : Heap} {a : Addr} {p : Nat → Prop} (R : SetAtS P w h a p) (k : ∀ o, h.get? a = some o → h'.get? a = some o) : SetAtS P w h' a p :=
  let ⟨D, cs, e, r⟩ := R; ⟨D, cs, k _ e, r⟩
def Az (l : List Nat) : Prop := ∀ c ∈ l, 97 ≤ c ∧ c ≤ 122
theorem az_few {cs l : List Nat} (nd : cs.Nodup) (h : Az l) (m : ∀ c ∈ cs, c ∈ l) : cs.length ≤ 26 := by
  have z := nat_nodup_len cs (List.range' 97 26) nd fun c hc => by
    have := h c (m c hc)
    rw [List.mem_range'_1]; omega
  simpa using z
theorem set_turns {I : Addr} {fp wr : List Addr} {G : Array GenState → Array GenState → Prop} {n : Nat} {St : Nat → Shared → Prop} {R : Result → Shared → Prop} {x : Str}
    (W : WalksS P w A.in1 I fp wr G n (SignAt x) St) (S : Addr) (away : S ∉ fp) (full : n = x.cps.size) (az : Az x.cps.toList) :
    ∀ (k i : Nat) (s : Shared), n - i = k → i ≤ n → St i s → SetAtS P w s.heap S (fun c => c ∈ x.cps.toList.take i) →
      (∀ s', Moved (S :: wr) G s s' → SetAtS P w s'.heap S (fun c => c ∈ x.cps.toList) → R (.ok (.ret .none)) s') →
      codeAny (model P w) A (.builtin "set.update.loop" ⟨[.ref S, .ref I], []⟩) R s := by
  have nw : S ∉ wr := fun h => away (W.sub _ h)
  have up : ∀ b ∈ wr, b ∈ S :: wr := fun b hb => .tail _ hb
  intro k
  induction k with
  | zero =>
    intro i s e1 e2 st R0 fin
    obtain rfl : i = n := by omega
    refine codeAny_builtin F.entry_set_update_loop ?_
    rw [Around.under_plainId F.plain_set_update_loop _]
    show wpAny _ A.in1 (pyNext (.ref I) >>= _) _ _ s
    refine wpAny_bind (W.done s _ _ st fun s' mv => wpAny_pure (fin s' (mv.mono up) ?_))
    have t : x.cps.toList.take i = x.cps.toList := List.take_of_length_le (by rw [Array.length_toList]; omega)
    rw [t] at R0
    exact R0.keep fun o e => mv.heap S o nw e
  | succ k ih =>
    intro i s e1 e2 st R0 fin
    have lt : i < n := by omega
    refine codeAny_builtin F.entry_set_update_loop ?_
    rw [Around.under_plainId F.plain_set_update_loop _]
    show wpAny _ A.in1 (pyNext (.ref I) >>= _) _ _ s
    refine wpAny_bind (W.item i s _ _ lt st fun v s' hP st' mv => ?_)
    obtain ⟨c, u, hc, rfl⟩ := hP
    have hc' : x.cps.toList[i]? = some c := by rw [Array.getElem?_toList]; exact hc
    obtain ⟨D, cs, at_, pay, nd, mem⟩ := R0.keep (h' := s'.heap) fun o e => mv.heap S o nw e
    have few : cs.length ≤ 26 := az_few nd az fun d hd => List.mem_of_mem_take ((mem d).mp hd)
    have tk : x.cps.toList.take (i + 1) = x.cps.toList.take i ++ [c] := by rw [List.take_add_one, hc']; rfl
    have next : ∀ h' : Heap, (∀ b, b ≠ S → h'.get? b = s'.heap.get? b) → SetAtS P w h' S (fun c => c ∈ x.cps.toList.take (i + 1)) →
        codeAny (model P w) A (.builtin "set.update.loop" ⟨[.ref S, .ref I], []⟩) R { s' with heap := h', toks := s'.toks + 1 } := fun h' sb R1 => by
      refine ih (i + 1) _ (by omega) lt (W.frame _ s' _ _ st' (Nat.le_succ _) fun b hb o e => ?_) R1 fun s2 mv2 R2 => fin s2 (Moved.trans W.gtrans ((mv.mono up).then_heap (Nat.le_succ _) fun b o hb e => ?_) mv2) R2
      · rw [sb b fun z => away (z ▸ hb)]; exact e
      · rw [sb b fun z => hb (z ▸ List.mem_cons_self)]; exact e
    show wpAny _ A.in1 (holding [Value.str (sing c) u] (setAdd S (.str (sing c) u)) >>= _) _ _ s'
    refine wpAny_bind (wpAny_holding ?_)
    unfold setAdd
    refine wpAny_holding (wpAny_bind ((PySem.strKind P w).pyHash (k := sing c) (is_str _ _) ?_))
    by_cases old : c ∈ cs
    · refine Pay.again (s := { s' with toks := s'.toks + 1 }) at_ pay old (Nat.lt_of_le_of_lt few (by decide)) ?_
      refine wpAny_pure ⟨plainId_quiet F.plain_set_update_loop _, next s'.heap (fun _ _ => rfl) ⟨D, cs, at_, pay, nd, fun d => ?_⟩⟩
      show d ∈ cs ↔ d ∈ _
      rw [tk, List.mem_append, List.mem_singleton, mem d]
      exact ⟨.inl, fun z => z.elim id fun e => e ▸ (mem c).mp old⟩
    · refine add_x (l := cs.map sing) (D := D) (s := { s' with toks := s'.toks + 1 }) at_ pay.ok (fun z => old (one_mem.mp z)) (by rw [List.length_map]; exact Nat.lt_of_le_of_lt (Nat.succ_le_succ few) (by decide)) ?_
      refine wpAny_pure ⟨plainId_quiet F.plain_set_update_loop _, next _ (fun b hb => Heap.get?_update_other _ _ (Ne.symm hb)) ⟨_, c :: cs, get_upd _ at_ rfl, pay.add u, List.nodup_cons.mpr ⟨old, nd⟩, fun d => ?_⟩⟩
      show d ∈ c :: cs ↔ d ∈ _
      rw [tk, List.mem_append, List.mem_singleton, List.mem_cons, mem d]
      exact Or.comm
theorem sub_str_set : isSubtype (.type "str") (.type "set") = pure false := by rw [isSubtype_type]; kernel_rfl
theorem sub_str_froz : isSubtype (.type "str") (.type "frozenset") = pure false := by rw [isSubtype_type]; kernel_rfl
/-- a new set, nothing in it -/
abbrev set0 (w : World) : Obj := sObj "set" (#[], 0, .fresh 0 0 (!w.params.followText "set-order"))
theorem set_init {x : Str} {t : Tok} {A : Around} {R : Result → Shared → Prop} (calm : A.handled = none) (az : Az x.cps.toList) {S : Addr} {s : Shared} (at1 : s.heap.get? S = some (set0 w))
    (q : ∀ h tk, (∀ b o, b ≠ S → s.heap.get? b = some o → h.get? b = some o) → SetAtS P w h S (fun c => c ∈ x.cps.toList) → R (.ok (.ret .none)) { s with heap := h, toks := tk }) :
    wpAny (model P w) A.in1 (Builtin.«set.__init__» ⟨[.ref S, .str x t], []⟩)
      (fun f s' => match f with | .done f => R (.ok f) s' | .again c => c.quiet = true ∧ codeAny (model P w) A c R s') (fun e s' => R (.error e) s') s := by
  have e1 := sub_str_set
  have e2 := sub_str_froz
  have e3 : (Value.type "str" == Value.type "dict") = false := by decide
  have ty : s.TypeIs (.ref S) "set" := ⟨_, at1, rfl⟩
  unfold Builtin.«set.__init__» noKeywords Builtin.Frozenset.updateFrom
  generalize hPI : pyIter = PI
  wp_walk
  subst hPI
  refine wpAny_pyIter_str fun o St W st => ?_
  refine wpAny_bind (wpAny_runValue ?_)
  have lt : S < s.heap.objs.size := Heap.lt_size at1
  refine set_turns (W _ (by simp [calm])).toS S (fun h => Nat.ne_of_lt lt (List.mem_singleton.mp h)) rfl az (x.cps.size - 0) 0 _ rfl (Nat.zero_le _) st
    ⟨(#[], 0, .fresh 0 0 (!w.params.followText "set-order")), [], Heap.get?_push_of_some _ at1, ⟨TxOk.nil rfl, List.Perm.nil, List.Pairwise.nil, ?_⟩, List.nodup_nil, fun c => by simp⟩ fun s2 mv R2 => ?_
  · show _ ∨ (!w.params.followText "set-order") = true
    cases w.params.followText "set-order"
    · exact .inr rfl
    · exact .inl rfl
  · rw [Moved.eq_with mv]
    refine wpAny_pure (wpAny_pure (q _ _ (fun b o hb e => ?_) R2))
    refine mv.heap b o (fun h => ?_) (Heap.get?_push_of_some _ e)
    rcases List.mem_cons.mp h with h | h
    · exact hb h
    · exact absurd (Heap.lt_size e) (by rw [List.mem_singleton.mp h]; exact Nat.lt_irrefl _)
theorem call_setS {x : Str} {t : Tok} {Q : Value → Shared → Prop} (calm : A.handled = none) (az : Az x.cps.toList)
    (q : ∀ h tk, (∀ b o, s.heap.get? b = some o → h.get? b = some o) → SetAtS P w h s.heap.objs.size (fun c => c ∈ x.cps.toList) → Q (.ref s.heap.objs.size) { s with heap := h, toks := tk }) :
    wpAny (model P w) A (call (.type "set") [.str x t]) Q E s := by
  obtain ⟨mc, mt, k1⟩ := F.called_set.mro
  have k2 := F.called_set.made
  have k3 := F.called_set.sub
  have k4 := F.called_set.notType
  have k5 := F.called_set.canCreate
  have k6 := F.typeCall_set_1 (.str x t)
  refine wpAny_call (codeAny_of_tree ?_)
  show wpAny _ _ (callAny (.type "set") _) _ _ _
  refine wpAny_pure ⟨Code.quiet_builtin _ (by decide +kernel), codeAny_builtin F.entry_type_call ?_⟩
  rw [Around.under_plain (weight_type_call_type "set" [.str x t] []) rfl]
  repeat (any_goals (first | assumption | wp_step))
  refine codeAny_mono (code_set_led1 (.str x t) (E := E) (Q₁ := fun ob s1 => ob = .ref s.heap.objs.size ∧ s1 = { s with heap := s.heap.push (set0 w) }) ⟨rfl, rfl⟩) fun r s1 h1 => ?_
  match r, h1 with
  | .error e, h1 => exact h1
  | .ok (.ret ob), h1 =>
    obtain ⟨rfl, rfl⟩ := h1
    have at1 : (s.heap.push (set0 w)).get? s.heap.objs.size = some (set0 w) := Heap.get?_push_size _ rfl
    have ty : Shared.TypeIs { s with heap := s.heap.push (set0 w) } (.ref s.heap.objs.size) "set" := ⟨_, at1, rfl⟩
    have k7 := F.called_set.init.lookup
    have k8 := F.called_set.init.bind (.ref s.heap.objs.size)
    repeat (any_goals (first | assumption | wp_step))
    refine codeAny_mono (codeAny_call_builtin (R := wants (fun r s2 => r = .none ∧ Q (.ref s.heap.objs.size) s2) E) F.called_set.init.plain F.entry_set_init (check_set_init_1 ty ?_)) fun r2 s2 h2 => ?_
    · refine set_init (by simp [calm]) az at1 fun h' tk kept R => ⟨rfl, q h' tk (fun b o e => kept b o (Nat.ne_of_lt (Heap.lt_size e)) (Heap.get?_push_of_some _ e)) R⟩
    · match r2, h2 with
      | .error e, h2 => exact h2
      | .ok (.ret r), h2 =>
        obtain ⟨rfl, h2⟩ := h2
        repeat (any_goals (first | assumption | wp_step))
theorem strs_of {k : KeyKind P w Str} (hk : k = PySem.strKind P w) : ∀ vs : List Value, (∀ v ∈ vs, ∃ y, k.is y v = true) → StrsAre vs (vs.map PyProof.Rows.strOf)
  | [], _ => .nil
  | v :: vs, h => by
    obtain ⟨y, hy⟩ := h v (.head _)
    subst hk
    obtain ⟨t, rfl⟩ := Value.isStrOf_shape hy
    exact .cons y t (strs_of rfl vs fun z hz => h z (.tail _ hz))
theorem call_sortedS {a : Addr} {p : Nat → Prop} {l : List Nat} {Q : Value → Shared → Prop} (calm : A.handled = none) (R : SetAtS P w s.heap a p) (az : Az l) (sub : ∀ c, p c → c ∈ l)
    (q : ∀ (s' : Shared) (b : Addr) (out : Array Value) (c : Nat) (ys : List Str) (cs : List Nat), (∀ d o, s.heap.get? d = some o → s'.heap.get? d = some o) → s'.gens = s.gens → s'.os = s.os → s.heap.objs.size ≤ b → s'.heap.get? b = some (seqObj "list" out c) → StrsAre out.toList ys →
      ys.Perm (cs.map sing) → sortedS ys = true → cs.Nodup → (∀ c, c ∈ cs ↔ p c) → Q (.ref b) s') : wpAny (model P w) A (call (.builtin "sorted") [.ref a]) Q E s := by
  obtain ⟨⟨es, ep, t⟩, cs, at_, pay, nd, mem⟩ := R
  have few : cs.length ≤ 26 := az_few nd az fun d hd => sub d ((mem d).mp hd)
  have ez : es.size = cs.length := by
    have z : es.size = (cs.map sing).length := pay.ok.sz
    rw [z, List.length_map]
  refine call_function_entry kind_sorted plain_sorted entry_sorted (args_sorted1 _) ?_
  unfold Builtin.«sorted»
  refine wpAny_bind (m := checkCount "sorted" 1 1 _) (wpAny_pure ?_)
  refine wpAny_bind (collect_set (A := A.in1) (es := es) (ep := ep) (t := t) calm ⟨_, at_, rfl, rfl⟩ pay.ok.fit (by rw [ez]; exact Nat.lt_of_le_of_lt few (by decide)) pay.ris pay.led fun s1 vs kept grow g1 o1 pm => ?_)
  have vl : vs.length = cs.length := by rw [pm.length_eq, List.length_map, Array.length_toList]; exact ez
  have sa : StrsAre vs (vs.map PyProof.Rows.strOf) := strs_of rfl vs fun v hv => by
    obtain ⟨e, he, rfl⟩ := List.mem_map.mp (pm.mem_iff.mp hv)
    obtain ⟨⟨y, hy, _⟩, _⟩ := pay.ok.el e he
    exact ⟨y, hy⟩
  have pk : (vs.map PyProof.Rows.strOf).Perm (cs.map sing) := (pm.map _).trans (by rw [List.map_map]; exact pay.pm)
  refine wpAny_bind (wpAny_newList ?_ (by rw [vl, sizeLine_eq]; omega))
  have at2 : (s1.heap.push (seqObj "list" vs.toArray 0)).get? s1.heap.objs.size = some (seqObj "list" vs.toArray 0) := Heap.get?_push_size _ rfl
  refine wpAny_bind (wpAny_holding (wpAny_call_entry slot_list_sort ⟨_, at2, rfl⟩ entry_list_sort
    (list_sort_treeK strKind_oneLt (s := { s1 with heap := s1.heap.push (seqObj "list" vs.toArray 0) }) at2 sa.keysOf (fun v₁ v₂ rest e => keyKind_strs (by rw [← e]; exact sa)) (by rw [vl]; omega) fun st' hp hs => ⟨_, rfl, ?_⟩) (args_list_sort _)))
  obtain ⟨ys, y1, y2, y3⟩ := sorted_out_str sa hp hs
  obtain ⟨c, at3⟩ := sortedHeap_at (vs := vs) (out := (arrOf st').map (·.2)) at2
  refine wpAny_pure ⟨_, rfl, q _ _ _ c ys cs (fun d o e => ?_) g1 o1 grow at3 y1 (y2.trans pk) y3 nd mem⟩
  have z := kept d o e
  have lt := Heap.lt_size z
  show (sortedHeap (s1.heap.push (seqObj "list" vs.toArray 0)) s1.heap.objs.size vs _).get? d = some o
  rw [sortedHeap_old (Nat.ne_of_lt lt) (by rw [size_push']; exact Nat.lt_succ_of_lt lt)]
  exact Heap.get?_push_of_some _ z
end
end FD
namespace FD
open PySem PySem.Spec PySem.Calls PySem.Froz PyProof.Rows L2
structure Bi2 (mg : Str → Option Value) : Prop where
  set : mg "set" = none
  sorted : mg "sorted" = none
theorem bSet : bootBuiltins "set" = some (.type "set") := by decide +kernel
theorem bSorted : bootBuiltins "sorted" = some (.builtin "sorted") := by decide +kernel
def setHO (P : Program) (w : World) (a : Addr) (x : Str) : HO := .ext fun h => SetAtS P w h a (fun c => c ∈ x.cps.toList)
/-- what sorted(set(x)) holds -/
def SortOf (x : Str) (ys : List Str) : Prop := ∃ cs : List Nat, ys.Perm (cs.map sing) ∧ sortedS ys = true ∧ cs.Nodup ∧ ∀ c, c ∈ cs ↔ c ∈ x.cps.toList
def rSetS (P : Program) (w : World) : List V → Hp → VK → Prop := fun xs H Q => ∃ x : Str, xs = [.str x] ∧ Az x.cps.toList ∧ ∀ a, H a = none → Q (.ref a) (upd H a (setHO P w a x))
def rSortS (P : Program) (w : World) : List V → Hp → VK → Prop := fun xs H Q => ∃ (a : Addr) (x : Str), xs = [.ref a] ∧ H a = some (setHO P w a x) ∧ Az x.cps.toList ∧
  ∀ ys b, SortOf x ys → H b = none → Q (.ref b) (upd H b (.lst (ys.map V.str)))
def rSortSet (P : Program) (w : World) : List V → Hp → VK → Prop := fun vs H Q => rSetS P w vs H fun v H2 => rSortS P w [v] H2 Q
section
variable {X : Cx}
theorem cl_setS (hc : X.calm = true) : CallR X (.type "set") (rSetS X.prog X.w) := by
  intro pins s σ H xs us Q I r h
  obtain ⟨x, e, az, q⟩ := h
  subst e
  obtain ⟨u, eu, rx⟩ := vals1 r
  subst eu
  obtain ⟨t, rfl⟩ := rx
  refine call_setS (I.ok.hd hc) az fun h' tk kept R => ?_
  refine ⟨.ref s.heap.objs.size, upd H s.heap.objs.size (setHO X.prog X.w s.heap.objs.size x), I.laid kept (Nat.le_refl _) ⟨R, ?_, fun h1 h2 p k => SetAtS.keep p k⟩, rfl, q _ (I.hok.fresh (Nat.le_refl _))⟩
  obtain ⟨D, cs, e, _⟩ := R
  exact ⟨_, e⟩
theorem cl_sortS (hc : X.calm = true) : CallR X (.builtin "sorted") (rSortS X.prog X.w) := by
  intro pins s σ H xs us Q I r h
  obtain ⟨a, x, e, ha, az, q⟩ := h
  subst e
  obtain ⟨u, eu, rx⟩ := vals1 r
  subst eu
  cases rx
  have R : SetAtS X.prog X.w s.heap a (fun c => c ∈ x.cps.toList) := (I.hok a _ ha).1
  refine call_sortedS (I.ok.hd hc) R az (fun c h => h) fun s' b out c ys cs kept g o hb at_ sa pm so nd mem => ?_
  have n : H b = none := I.hok.fresh hb
  have few : cs.length ≤ 26 := az_few nd az fun d hd => (mem d).mp hd
  have sz : (ys.map V.str).length ≤ sizeLine := by
    rw [List.length_map, pm.length_eq, List.length_map]
    exact Nat.le_trans few (by decide)
  have new : ObjOk X.prog X.w (upd H b (.lst (ys.map V.str))) s'.heap b (.lst (ys.map V.str)) := ⟨sz, out.toList, c, vals_of_strs sa, by rw [Array.toArray_toList]; exact at_⟩
  have J : Inv X pins σ (upd H b (.lst (ys.map V.str))) s' := I.call' (ch := []) o (Un.laid kept hb n) (I.hok.laid kept hb new) (by rw [g]; exact I.bare) fun _ z => nomatch z
  exact ⟨.ref b, _, J, rfl, q ys b ⟨cs, pm, so, nd, mem⟩ n⟩
theorem pe_sortSet {e : Expr} {es : List Expr} {ta : TA} {p p2 pos pos2 : Pos} (hc : X.calm = true) (hg : Gl X "sorted") (hm : X.mg "sorted" = none) (hg2 : Gl X "set") (hm2 : X.mg "set" = none) (ha : PA X (e :: es) ta)
    (he : starEach (e :: es) X.env = (false, eval e X.env) :: starEach es X.env) (hp : (backTo pos2 (starEach es X.env)).any (·.1) = false) :
    PE X (.Call (.Name "sorted" p) [.Call (.Name "set" p2) (e :: es) [] pos2] [] pos) (tCB (rSortSet X.prog X.w) ta) :=
  pe_callB (t := tCons (tCB (rSetS X.prog X.w) ta) tNil) (cl_sortS hc) hg hm bSorted (pa_cons (pe_callTy (x := "set") (cl_setS hc) hg2 hm2 bSet ha (by decide) (by decide) he hp) pa_nil) (by decide) (by decide) rfl rfl
end
/-! the same as data -/
theorem rise_sing : ∀ (zs : List Nat) (p : Nat), risingS (sing p) (zs.map sing) = true → (∀ z ∈ zs, p ≤ z) ∧ zs.Pairwise (· ≤ ·)
  | [], _, _ => ⟨(fun _ h => nomatch h), List.Pairwise.nil⟩
  | z :: zs, p, h => by
    have h' : (!ltCps [z] [p] && risingS (sing z) (zs.map sing)) = true := h
    rw [Bool.and_eq_true] at h'
    obtain ⟨i1, i2⟩ := rise_sing zs z h'.2
    have pz : p ≤ z := by
      have := h'.1
      simp [ltCps] at this
      exact this
    refine ⟨fun y hy => ?_, i2.cons i1⟩
    rcases List.mem_cons.mp hy with e | hy
    · rw [e]; exact pz
    · exact Nat.le_trans pz (i1 y hy)
theorem sort_list {x : Str} {ys : List Str} (h : SortOf x ys) : ∃ zs : List Nat, ys = zs.map sing ∧ zs.Pairwise (· < ·) ∧ ∀ c, c ∈ zs ↔ c ∈ x.cps.toList := by
  obtain ⟨cs, pm, so, nd, mem⟩ := h
  have e1 : ∀ y ∈ ys, y = sing (y.cps.getD 0 0) := fun y hy => by
    obtain ⟨c, _, rfl⟩ := List.mem_map.mp (pm.mem_iff.mp hy)
    rfl
  have e2 : ys = (ys.map fun y => y.cps.getD 0 0).map sing := by
    rw [List.map_map]
    conv => lhs; rw [← List.map_id ys]
    exact List.map_congr_left fun y hy => e1 y hy
  have e3 : (ys.map fun y => y.cps.getD 0 0).Perm cs := by
    refine (pm.map _).trans ?_
    rw [List.map_map]
    have : ((fun y : Str => y.cps.getD 0 0) ∘ sing) = id := rfl
    rw [this, List.map_id]
  generalize (ys.map fun y => y.cps.getD 0 0) = zs at e2 e3
  subst e2
  refine ⟨zs, rfl, ?_, fun c => (e3.mem_iff).trans (mem c)⟩
  have le : zs.Pairwise (· ≤ ·) := by
    cases zs with
    | nil => exact .nil
    | cons z zs =>
      obtain ⟨a, b⟩ := rise_sing zs z so
      exact b.cons a
  have ne : zs.Pairwise (· ≠ ·) := e3.nodup_iff.mpr nd
  exact (le.and ne).imp fun h => Nat.lt_of_le_of_ne h.1 h.2
theorem strs_dd (G : Hp) : ∀ l : List Str, DdAll G (l.map V.str) (l.map PyData.str)
  | [] => .nil
  | _ :: l => .cons (.str _) (strs_dd G l)
theorem rc_sortSet {pr : Program} {w : World} {K : PySem.W.Frag} {env : En} {P : PyData → Prop} {x : Str} (az : Az x.cps.toList)
    (p : ∀ zs : List Nat, zs.Pairwise (· < ·) → (∀ c, c ∈ zs ↔ c ∈ x.cps.toList) → P (.list (zs.map fun c => .str ⟨#[c]⟩))) : RC K (rSortSet pr w) env [.str x] P := fun B σ G H xs Q I rx q => by
  obtain ⟨y, rfl, h⟩ := rx.one
  cases h
  refine ⟨x, rfl, az, fun a na => ⟨a, x, rfl, upd_same, az, fun ys b so nb => ?_⟩⟩
  obtain ⟨zs, rfl, ord, mem⟩ := sort_list so
  have n1 := I.exH.fresh na
  have I1 := I.new (o := setHO pr w a x) na
  have n2 := I1.exH.fresh nb
  have e2 : (zs.map sing).map PyData.str = zs.map fun c => PyData.str ⟨#[c]⟩ := by rw [List.map_map]; rfl
  refine q _ _ _ _ (p zs ord mem) ((Ex.new n1).trans (Ex.new n2)) (I1.new nb) (.lst upd_same ?_)
  rw [← e2]
  exact (strs_dd _ _).ex (Ex.new n2)
end FD

set_option Elab.async false
set_option linter.all false
set_option maxRecDepth 100000
set_option maxHeartbeats 2000000
namespace FD
open PySem PySem.Spec PyProof.Rows L2
/-! a, b = x, y of local names -/
section
variable {K : PySem.W.Frag} {env : En} {O : Outs} {i j : Nat}
theorem es_par {ta : TA} (h : EvAs K ta env fun e1 ds => ∃ a b, ds = [a, b] ∧ O.nx ((e1.set i (some (.dat a))).set j (some (.dat b)))) : EvS K (tPar i j ta) env O := fun B σ G H D I a b c d f =>
  h B σ G H _ I fun vs G1 H1 e1 ds p1 x1 I1 r => by
    obtain ⟨u, v, rfl, nx⟩ := p1
    obtain ⟨x, y, rfl, r1, r2⟩ := r.two
    exact ⟨x, y, rfl, a _ G1 _ _ nx x1 ((I1.setD r1).setD r2)⟩
theorem es_parOwn {te : TE} (h : EvE K te env fun e1 d => ∀ p : Addr, O.nx ((e1.set i (some (.dat d))).set j (some (.own p [])))) : EvS K (tPar i j (tCons te (tCons (tLst tNil) tNil))) env O := fun B σ G H D I a b c d f =>
  h B σ G H _ I fun x G1 H1 e1 d1 p1 x1 I1 r => by
    have own := es_own (K := K) (i := j) (env := e1.set i (some (.dat d1))) (O := O) p1
    obtain ⟨z, q⟩ := own B (σ.set i (some x)) G1 H1 D (I1.setD r) (fun σ2 G2 H2 e2 n x2 => a σ2 G2 H2 e2 n (x1.trans x2)) (fun v G2 H2 σ2 e2 f2 p2 x2 => b v G2 H2 σ2 e2 f2 p2 (x1.trans x2)) (fun σ2 G2 H2 e2 p2 x2 => c σ2 G2 H2 e2 p2 (x1.trans x2))
      (fun σ2 G2 H2 e2 p2 x2 => d σ2 G2 H2 e2 p2 (x1.trans x2)) (fun p σ2 G2 H2 e2 p2 x2 => f p σ2 G2 H2 e2 p2 (x1.trans x2))
    exact ⟨z, fun p np => ⟨x, .ref p, rfl, q p np⟩⟩
end
theorem ps_parv {X : Cx} {N : List Str} {i j : Nat} {x y : Str} {a b : Expr} {ta : TA} {px py pt pos : Pos} {kt k2 pt2} (hi : N[i]? = some x) (hj : N[j]? = some y) (nd : N.Nodup) (hX : X.N = N) (hc : X.calm = true) (hij : i ≠ j)
    (hx : X.env.scope.names.lookup x = some .local) (hy : X.env.scope.names.lookup y = some .local) (ha : PA X [a, b] ta)
    (hw : swappedStores [.Tuple [.Name x px, .Name y py] kt pt] (.Tuple [a, b] k2 pt2) X.env = pure (some [x, y])) (hs : swapsWithSole [.Tuple [.Name x px, .Name y py] kt pt] (.Tuple [a, b] k2 pt2) pos.line X.env = pure false) :
    PS X (.Assign [.Tuple [.Name x px, .Name y py] kt pt] (.Tuple [a, b] k2 pt2) pos) (tPar i j ta) := by
  subst hX
  exact ps_par hc nd hi hj hij hx hy ha hw hs
end FD

set_option Elab.async false
set_option linter.all false
set_option maxRecDepth 100000
set_option maxHeartbeats 2000000
namespace FD
open PySem PySem.Spec PyProof.Rows L2
/-! lists of one's own that begin with something -/
section
variable {K : PySem.W.Frag} {env : En} {O : Outs} {i : Nat}
theorem EnvOk.own {B : Bs} {G H : Hp} {σ : L2.St} (I : EnvOk K B G H σ env) {p : Addr} {xs : List V} {ds : List PyData} (np : H p = none) (r : DdAll G xs ds) :
    EnvOk K B G (upd H p (.lst xs)) (σ.set i (some (.ref p))) (env.set i (some (.own p ds))) := by
  have I2 : EnvOk K B G (upd H p (.lst xs)) σ env := by
    refine ⟨I.exH.trans (Ex.new np), I.exG, fun q u hq hm => Ex.new np _ _ (I.keep q u hq hm), I.nog, fun q u hq => ?_, I.mus, I.len, fun j s e => ?_, I.mine, I.inj⟩
    · obtain ⟨w, hw⟩ := I.there q u hq
      exact ⟨w, Ex.new np _ _ hw⟩
    · obtain ⟨v, h1, h2⟩ := I.sl j s e
      exact ⟨v, h1, h2.ex (Ex.refl _) (fun q hq => (h2.has hq).2.1) fun q u hq hu => Ex.new np _ _ hu⟩
  have bp : B.H p = none := by
    cases z : B.H p with
    | none => rfl
    | some o => obtain ⟨u, hu⟩ := I.there p o z; rw [np] at hu; cases hu
  refine I2.setO (s := .own p ds) ⟨rfl, I.exH.fresh np, xs, upd_same, r⟩ rfl bp fun j t e z => ?_
  obtain ⟨v, _, h2⟩ := I.sl j t e
  obtain ⟨_, _, o, ho⟩ := h2.has z
  rw [np] at ho; cases ho
theorem es_ownPlus {ta tb : TE} (h : EvE K ta env fun e1 d1 => EvE K tb e1 fun e2 d2 => ∃ xs ys, d1 = .list xs ∧ d2 = .list ys ∧ xs.length + ys.length ≤ sizeLine ∧ ∀ p : Addr, O.nx (e2.set i (some (.own p (xs ++ ys))))) :
    EvS K (tAsg (tOp (rPlus K) ta tb) (gName i)) env O := fun B σ G H D I a b c d f =>
  h B σ G H _ I fun x G1 H1 e1 d1 p1 x1 I1 r1 => p1 B σ G1 H1 _ I1 fun y G2 H2 e2 d2 p2 x2 I2 r2 => by
    obtain ⟨xs, ys, rfl, rfl, hl, nx⟩ := p2
    cases r1 with
    | lst h1 q1 =>
      cases r2 with
      | lst h2 q2 =>
        refine .inr (.inr (.inl ⟨_, _, _, _, rfl, rfl, I2.exH _ _ (x2 _ _ h1), I2.exH _ _ h2, by rw [q1.length, q2.length]; exact hl, fun p np => ?_⟩))
        exact a _ G2 _ _ (nx p) (x1.trans x2) (I2.own np ((q1.ex x2).append q2))
theorem es_ownLst {ta : TA} (h : EvAs K ta env fun e1 ds => ds.length ≤ sizeLine ∧ ∀ p : Addr, O.nx (e1.set i (some (.own p ds)))) : EvS K (tAsg (tLst ta) (gName i)) env O := fun B σ G H D I a b c d f =>
  h B σ G H _ I fun vs G1 H1 e1 ds p1 x1 I1 r => ⟨by rw [r.length]; exact p1.1, fun p np => a _ G1 _ _ (p1.2 p) x1 (I1.own np r)⟩
end
end FD

set_option maxRecDepth 100000
set_option maxHeartbeats 4000000
namespace K02
open PySem PySem.Spec PyProof.Rows L2 FD
/-! the steps: which rule a piece of syntax takes, what its reading asks -/
local macro_rules | `(tactic| fail "fA") => `(tactic| first
  | with_reducible exact pa_nil
  | ((with_reducible refine' pa_cons ?q0 ?q1 ?s0); (case q0 => fail "fE"); (case q1 => fail "fA"); (case s0 => rfl)))
local macro_rules | `(tactic| fail "fO") => `(tactic| first
  | with_reducible exact po_none
  | ((with_reducible refine' po_some ?q0); (case q0 => fail "fE")))
local macro_rules | `(tactic| fail "fI") => `(tactic| first
  | ((with_reducible refine' pi_str (tg := .Name "sign" _) ?q0); (case q0 => fail "fE"))
  | ((with_reducible refine' pi_range1 ?s0 ?q0 ?q1 ?s1); (case q0 => (exact Bi.range (by assumption))); (case q1 => fail "fA"); (case s0 => rfl); (case s1 => rfl))
  | ((with_reducible refine' pi_range2 ?s0 ?q0 ?q1 ?s1 ?s2); (case q0 => (exact Bi.range (by assumption))); (case q1 => fail "fA"); (case s0 => rfl); (case s1 => rfl); (case s2 => rfl))
  | ((with_reducible refine' pi_str (e := .Constant _ _ _) ?q0); (case q0 => fail "fE"))
  | ((with_reducible refine' km_list ?mk ?hk (e := .List _ _) ?q0); (case mk => assumption); (case hk => rfl); (case q0 => fail "fE"))
  | ((with_reducible refine' km_list ?mk ?hk (e := .Call _ _ _ _) ?q0); (case mk => assumption); (case hk => rfl); (case q0 => fail "fE"))
  | ((with_reducible refine' km_list ?mk ?hk (e := .BinOp _ _ _ _) ?q0); (case mk => assumption); (case hk => rfl); (case q0 => fail "fE"))
  | ((with_reducible refine' km_tup ?mk ?hk ?q0); (case mk => assumption); (case hk => rfl); (case q0 => fail "fE")))
local macro_rules | `(tactic| fail "fV") => `(tactic| first
  | ((with_reducible refine' pe_v ?q0 ?s0 ?q1 ?s1 ?s2); (case q0 => (with_reducible assumption)); (case q1 => (first | exact .inl rfl | exact .inr (.inl rfl) | exact .inr (.inr rfl))); (case s0 => rfl); (case s1 => decide); (case s2 => decide)))
local macro_rules | `(tactic| fail "fN") => `(tactic| first
  | ((with_reducible refine' pg_v ?q0 ?s0 ?s1 ?q1 ?q2); (case q0 => (with_reducible assumption)); (case q1 => (first | exact .inl rfl | exact .inr rfl)); (case q2 => (first | exact .inl rfl | exact .inr rfl)); (case s0 => assumption); (case s1 => rfl)))
local macro_rules | `(tactic| fail "fGs") => `(tactic| first
  | with_reducible exact pgs_nil
  | ((with_reducible refine' pgs_cons ?q0 ?q1 ?s0); (case q0 => fail "fN"); (case q1 => fail "fGs"); (case s0 => rfl)))
local macro_rules | `(tactic| fail "fG") => `(tactic| first
  | fail "fN"
  | ((with_reducible refine' km_gtup ?mk ?hk ?s0 ?q0 ?s1 ?s2); (case mk => assumption); (case hk => rfl); (case q0 => fail "fGs"); (case s0 => rfl); (case s1 => rfl); (case s2 => rfl))
  | ((with_reducible refine' pg_sub ?q0 ?q1 set_list ?q2); (case q0 => fail "fV"); (case q1 => fail "fE"); (case q2 => (intro _; rfl))))
local macro_rules | `(tactic| fail "fTs") => `(tactic| first
  | with_reducible exact pts_nil
  | ((with_reducible refine' pts_one ?q0); (case q0 => fail "fT")))
local macro_rules | `(tactic| fail "fL") => `(tactic| first
  | ((with_reducible refine' pe_lc1 ?s1 ?s0 (fun _ _ _ _ _ => ?q0) ?q4 ?q1 (fun _ _ _ _ _ => ?q2) (fun _ _ _ _ _ => ?q3) (fun _ => ?s2)); (case q0 => fail "fN"); (case q1 => fail "fI"); (case q2 => fail "fTs"); (case q3 => fail "fE"); (case q4 => (kernel_rfl)); (case s0 => assumption); (case s1 => rfl); (case s2 => rfl)))
local macro_rules | `(tactic| fail "fC") => `(tactic| first
  | ((with_reducible refine' km_isi ?mk ?hk (n := "int") (nm := "int") ?q0 ?q1 bInt ?s0 ?s1 ?q2 ?s2 ?s3 ?s4 ?s5 ?s6); (case mk => assumption); (case hk => rfl); (case q0 => assumption); (case q1 => (exact Bi.int (by assumption))); (case q2 => fail "fE"); (case s0 => rfl); (case s1 => rfl); (case s2 => rfl); (case s3 => rfl); (case s4 => rfl); (case s5 => decide); (case s6 => decide))
  | ((with_reducible refine' km_isi ?mk ?hk (n := "bool") (nm := "bool") ?q0 ?q1 bBool ?s0 ?s1 ?q2 ?s2 ?s3 ?s4 ?s5 ?s6); (case mk => assumption); (case hk => rfl); (case q0 => assumption); (case q1 => (exact Bi.bool (by assumption))); (case q2 => fail "fE"); (case s0 => rfl); (case s1 => rfl); (case s2 => rfl); (case s3 => rfl); (case s4 => rfl); (case s5 => decide); (case s6 => decide))
  | ((with_reducible refine' km_isi ?mk ?hk (n := "str") (nm := "str") ?q0 ?q1 bStr ?s0 ?s1 ?q2 ?s2 ?s3 ?s4 ?s5 ?s6); (case mk => assumption); (case hk => rfl); (case q0 => assumption); (case q1 => (exact Bi.str (by assumption))); (case q2 => fail "fE"); (case s0 => rfl); (case s1 => rfl); (case s2 => rfl); (case s3 => rfl); (case s4 => rfl); (case s5 => decide); (case s6 => decide))
  | ((with_reducible refine' km_isi ?mk ?hk (n := "tuple") (nm := "tuple") ?q0 ?q1 bTuple ?s0 ?s1 ?q2 ?s2 ?s3 ?s4 ?s5 ?s6); (case mk => assumption); (case hk => rfl); (case q0 => assumption); (case q1 => (exact Bi.tuple (by assumption))); (case q2 => fail "fE"); (case s0 => rfl); (case s1 => rfl); (case s2 => rfl); (case s3 => rfl); (case s4 => rfl); (case s5 => decide); (case s6 => decide))
  | ((with_reducible refine' km_isi ?mk ?hk (n := "list") (nm := "list") ?q0 ?q1 bList ?s0 ?s1 ?q2 ?s2 ?s3 ?s4 ?s5 ?s6); (case mk => assumption); (case hk => rfl); (case q0 => assumption); (case q1 => (exact Bi.list (by assumption))); (case q2 => fail "fE"); (case s0 => rfl); (case s1 => rfl); (case s2 => rfl); (case s3 => rfl); (case s4 => rfl); (case s5 => decide); (case s6 => decide))
  | ((with_reducible refine' km_len ?mk ?hk ?s0 ?q0 ?q1 ?s1 ?s2); (case mk => assumption); (case hk => rfl); (case q0 => (exact Bi.len (by assumption))); (case q1 => fail "fA"); (case s0 => rfl); (case s1 => rfl); (case s2 => rfl))
  | ((with_reducible refine' km_all ?mk ?hk ?s0 ?s1 ?q0 ?q1 ?s2 ?s3); (case mk => assumption); (case hk => rfl); (case q0 => (exact Bi.all (by assumption))); (case q1 => fail "fA"); (case s0 => rfl); (case s1 => rfl); (case s2 => rfl); (case s3 => rfl))
  | ((with_reducible refine' km_repr ?mk ?hk ?s0 ?s1 ?s2 ?q0 ?q1 ?s3 ?s4); (case mk => assumption); (case hk => rfl); (case q0 => (exact Bi.repr (by assumption))); (case q1 => fail "fA"); (case s0 => assumption); (case s1 => assumption); (case s2 => rfl); (case s3 => rfl); (case s4 => rfl))
  | ((with_reducible refine' km_sum ?mk ?hk ?s0 ?s1 ?q0 ?q1 ?s2 ?s3); (case mk => assumption); (case hk => rfl); (case q0 => (exact Bi.sum (by assumption))); (case q1 => fail "fA"); (case s0 => rfl); (case s1 => rfl); (case s2 => rfl); (case s3 => rfl))
  | ((with_reducible refine' pe_callB (x := "max") (cl_max ?s0) ?s1 ?q0 bMax ?q1 ?s4 ?s5 ?s2 ?s3); (case q0 => (exact Bi.max (by assumption))); (case q1 => fail "fA"); (case s0 => rfl); (case s1 => rfl); (case s2 => rfl); (case s3 => rfl); (case s4 => decide); (case s5 => decide))
  | ((with_reducible refine' pe_callB (x := "min") (cl_min ?s0) ?s1 ?q0 bMin ?q1 ?s4 ?s5 ?s2 ?s3); (case q0 => (exact Bi.min (by assumption))); (case q1 => fail "fA"); (case s0 => rfl); (case s1 => rfl); (case s2 => rfl); (case s3 => rfl); (case s4 => decide); (case s5 => decide))
  | ((with_reducible refine' pe_sortSet ?s0 ?s1 ?q0 ?s2 ?q1 ?q2 ?s3 ?s4); (case q0 => (exact Bi2.sorted (by assumption))); (case q1 => (exact Bi2.set (by assumption))); (case q2 => fail "fA"); (case s0 => rfl); (case s1 => rfl); (case s2 => rfl); (case s3 => rfl); (case s4 => rfl))
  | ((with_reducible refine' pe_listS ?s0 ?s1 ?q0 ?q1 ?s2 ?s3); (case q0 => (exact Bi.list (by assumption))); (case q1 => fail "fA"); (case s0 => rfl); (case s1 => rfl); (case s2 => rfl); (case s3 => rfl))
  | ((with_reducible refine' pe_callTy (x := "int") cl_int ?s0 ?q0 bInt ?q1 ?s3 ?s4 ?s1 ?s2); (case q0 => (exact Bi.int (by assumption))); (case q1 => fail "fA"); (case s0 => rfl); (case s1 => rfl); (case s2 => rfl); (case s3 => decide); (case s4 => decide))
  | ((with_reducible refine' km_tuple ?mk ?hk ?s0 ?q0 ?q1 ?s1 ?s2); (case mk => assumption); (case hk => rfl); (case q0 => (exact Bi.tuple (by assumption))); (case q1 => fail "fA"); (case s0 => rfl); (case s1 => rfl); (case s2 => rfl))
  | ((with_reducible refine' pe_cl0 ?q0 ?s2 ?s3 ?s4 ?s5 ?s6 ?s0 ?s1 ?s8 ?s7 ?s9); (case q0 => (with_reducible assumption)); (case s0 => assumption); (case s1 => assumption); (case s2 => rfl); (case s3 => rfl); (case s4 => rfl); (case s5 => rfl); (case s6 => rfl); (case s7 => rfl); (case s8 => decide); (case s9 => decide))
  | ((with_reducible refine' pe_cl ?q0 ?s3 ?s4 ?s5 ?s6 ?s7 ?s0 ?s1 ?s2 ?s8 ?q1 ?s11 ?s9 ?s10); (case q0 => (with_reducible assumption)); (case q1 => fail "fA"); (case s0 => assumption); (case s1 => assumption); (case s2 => (first | decide | omega)); (case s3 => rfl); (case s4 => rfl); (case s5 => rfl); (case s6 => rfl); (case s7 => rfl); (case s8 => rfl); (case s9 => rfl); (case s10 => rfl); (case s11 => decide)))
local macro_rules | `(tactic| fail "fP") => `(tactic| first
  | ((with_reducible refine' km_plus ?mk ?hk ?q0 ?q1); (case mk => assumption); (case hk => rfl); (case q0 => fail "fE"); (case q1 => fail "fE"))
  | ((with_reducible refine' pe_minus ?q0 ?q1); (case q0 => fail "fE"); (case q1 => fail "fE"))
  | ((with_reducible refine' km_times ?mk ?hk ?q0 ?q1); (case mk => assumption); (case hk => rfl); (case q0 => fail "fE"); (case q1 => fail "fE"))
  | ((with_reducible refine' pe_rest ?q0 ?q1); (case q0 => fail "fE"); (case q1 => fail "fE"))
  | ((with_reducible refine' pe_over ?q0 ?q1); (case q0 => fail "fE"); (case q1 => fail "fE"))
  | ((with_reducible refine' pe_power ?q0 ?q1); (case q0 => fail "fE"); (case q1 => fail "fE")))
local macro_rules | `(tactic| fail "fQ") => `(tactic| first
  | ((with_reducible refine' pe_lt ?q0 ?q1); (case q0 => fail "fE"); (case q1 => fail "fE"))
  | ((with_reducible refine' pe_le ?q0 ?q1); (case q0 => fail "fE"); (case q1 => fail "fE"))
  | ((with_reducible refine' pe_gt ?q0 ?q1); (case q0 => fail "fE"); (case q1 => fail "fE"))
  | ((with_reducible refine' pe_ge ?q0 ?q1); (case q0 => fail "fE"); (case q1 => fail "fE"))
  | ((with_reducible refine' pe_is ?q0 ?q1); (case q0 => fail "fE"); (case q1 => fail "fE"))
  | ((with_reducible refine' pe_isnt ?q0 ?q1); (case q0 => fail "fE"); (case q1 => fail "fE"))
  | ((with_reducible refine' km_pe_eq ?mk ?hk ?s0 ?q0 ?q1); (case mk => assumption); (case hk => rfl); (case q0 => fail "fE"); (case q1 => fail "fE"); (case s0 => assumption))
  | ((with_reducible refine' km_pe_ne ?mk ?hk ?s0 ?q0 ?q1); (case mk => assumption); (case hk => rfl); (case q0 => fail "fE"); (case q1 => fail "fE"); (case s0 => assumption))
  | ((with_reducible refine' pe_ins ?q0 ?q1 ?s0); (case q0 => fail "fE"); (case q1 => fail "fE"); (case s0 => rfl))
  | ((with_reducible refine' pe_nins ?q0 ?q1 ?s0); (case q0 => fail "fE"); (case q1 => fail "fE"); (case s0 => rfl))
  | ((with_reducible refine' pe_lele ?q0 ?q1 ?q2 ?q3); (case q0 => fail "fE"); (case q1 => fail "fE"); (case q2 => fail "fE"); (case q3 => (with_unfolding_all rfl))))
local macro_rules | `(tactic| fail "fE") => `(tactic| first
  | with_reducible exact pe_int
  | with_reducible exact pe_str
  | with_reducible exact pe_non
  | with_reducible exact pe_bl
  | with_reducible exact pe_disp1
  | fail "fV"
  | ((with_reducible refine' pe_neg ?q0); (case q0 => fail "fE"))
  | fail "fP"
  | fail "fQ"
  | ((with_reducible refine' pe_and ?q0 ?q1); (case q0 => fail "fE"); (case q1 => fail "fE"))
  | ((with_reducible refine' pe_or ?q0 ?q1); (case q0 => fail "fE"); (case q1 => fail "fE"))
  | ((with_reducible refine' pe_one ?q0); (case q0 => fail "fE"))
  | ((with_reducible refine' pe_not ?q0); (case q0 => fail "fE"))
  | ((with_reducible refine' pe_ifExp ?q0 ?q1 ?q2); (case q0 => fail "fT"); (case q1 => fail "fE"); (case q2 => fail "fE"))
  | ((with_reducible refine' km_revT ?mk ?hk ?q0); (case mk => assumption); (case hk => rfl); (case q0 => fail "fE"))
  | ((with_reducible refine' km_slice ?mk ?hk ?q0 ?q1 ?q2); (case mk => assumption); (case hk => rfl); (case q0 => fail "fE"); (case q1 => fail "fO"); (case q2 => fail "fO"))
  | ((with_reducible refine' pe_dget (o := .Name "times" _) ?q2 ?q0 ?q1 ?q3); (case q0 => fail "fV"); (case q1 => fail "fE"); (case q2 => (exact Room.u1 (by assumption))); (case q3 => (exact fun _ _ => rfl)))
  | ((with_reducible refine' km_ix ?mk ?hk ?q0 ?q1 ?q2); (case mk => assumption); (case hk => rfl); (case q0 => fail "fE"); (case q1 => fail "fE"); (case q2 => (exact fun _ _ => rfl)))
  | fail "fC"
  | ((with_reducible refine' km_append ?mk ?hk ?q0 ?q1 ?s0 ?s1 ?s2 ?s3 ?s4); (case mk => assumption); (case hk => rfl); (case q0 => fail "fV"); (case q1 => fail "fA"); (case s0 => rfl); (case s1 => rfl); (case s2 => rfl); (case s3 => rfl); (case s4 => rfl))
  | ((with_reducible refine' pe_lst ?q0); (case q0 => fail "fA"))
  | ((with_reducible refine' pe_tup ?q0); (case q0 => fail "fA"))
  | fail "fL")
local macro_rules | `(tactic| fail "fT") => `(tactic| first
  | ((with_reducible refine' pt_lt ?q0 ?q1); (case q0 => fail "fE"); (case q1 => fail "fE"))
  | ((with_reducible refine' pt_le ?q0 ?q1); (case q0 => fail "fE"); (case q1 => fail "fE"))
  | ((with_reducible refine' pt_gt ?q0 ?q1); (case q0 => fail "fE"); (case q1 => fail "fE"))
  | ((with_reducible refine' pt_ge ?q0 ?q1); (case q0 => fail "fE"); (case q1 => fail "fE"))
  | ((with_reducible refine' pt_is ?q0 ?q1); (case q0 => fail "fE"); (case q1 => fail "fE"))
  | ((with_reducible refine' pt_isnt ?q0 ?q1); (case q0 => fail "fE"); (case q1 => fail "fE"))
  | ((with_reducible refine' km_pt_eq ?mk ?hk ?s0 ?q0 ?q1); (case mk => assumption); (case hk => rfl); (case q0 => fail "fE"); (case q1 => fail "fE"); (case s0 => assumption))
  | ((with_reducible refine' km_pt_ne ?mk ?hk ?s0 ?q0 ?q1); (case mk => assumption); (case hk => rfl); (case q0 => fail "fE"); (case q1 => fail "fE"); (case s0 => assumption))
  | ((with_reducible refine' pt_ins ?q0 ?q1 ?s0); (case q0 => fail "fE"); (case q1 => fail "fE"); (case s0 => rfl))
  | ((with_reducible refine' pt_nins ?q0 ?q1 ?s0); (case q0 => fail "fE"); (case q1 => fail "fE"); (case s0 => rfl))
  | ((with_reducible refine' pt_lele ?q0 ?q1 ?q2 ?q3); (case q0 => fail "fE"); (case q1 => fail "fE"); (case q2 => fail "fE"); (case q3 => (with_unfolding_all rfl)))
  | ((with_reducible refine' pt_cmp (pc_dnotin ?q2 ?q0 ?q1) ?s0); (case q0 => fail "fE"); (case q1 => fail "fE"); (case q2 => (exact Room.u1 (by assumption))); (case s0 => rfl))
  | ((with_reducible refine' pt_not ?q0); (case q0 => fail "fT"))
  | ((with_reducible refine' PW.pt ?q0); (case q0 => fail "fW"))
  | ((with_reducible refine' pt_val ?q0 ?q1); (case q0 => fail "fE"); (case q1 => (intro _; rfl))))
local macro_rules | `(tactic| fail "fW") => `(tactic| first
  | ((with_reducible refine' pw_and ?q0 ?q1); (case q0 => fail "fT"); (case q1 => fail "fW"))
  | ((with_reducible refine' pw_or ?q0 ?q1); (case q0 => fail "fT"); (case q1 => fail "fW"))
  | ((with_reducible refine' pw_and1 ?q0); (case q0 => fail "fT"))
  | ((with_reducible refine' pw_or1 ?q0); (case q0 => fail "fT")))
local macro_rules | `(tactic| fail "fS") => `(tactic| first
  | ((with_reducible refine' ps_ret ?q0); (case q0 => fail "fE"))
  | ((with_reducible refine' ps_if ?q0 ?q1 ?q2); (case q0 => fail "fT"); (case q1 => fail "fZ"); (case q2 => fail "fZ"))
  | ((with_reducible refine' ps_dput (o := .Name "times" _) ?q3 ?q0 ?q1 ?q2 ?s0); (case q0 => fail "fV"); (case q1 => fail "fE"); (case q2 => fail "fE"); (case q3 => (exact Room.u1 (by assumption))); (case s0 => rfl))
  | ((with_reducible refine' ps_asg ?q0 ?q1 ?s0 ?s1 ?s2); (case q0 => fail "fE"); (case q1 => fail "fG"); (case s0 => rfl); (case s1 => rfl); (case s2 => rfl))
  | ((with_reducible refine' ps_parv ?q0 ?q1 ?s0 ?s1 ?s2 ?s7 ?s3 ?s4 ?q2 ?s5 ?s6); (case q0 => (with_reducible assumption)); (case q1 => (with_reducible assumption)); (case q2 => fail "fA"); (case s0 => assumption); (case s1 => rfl); (case s2 => rfl); (case s3 => rfl); (case s4 => rfl); (case s5 => rfl); (case s6 => rfl); (case s7 => decide))
  | ((with_reducible refine' ps_lc1 ?s1 ?s0 ?q5 ?s2 ?s3 ?s4 ?s5 ?s6 (fun _ _ _ _ _ => ?q0) ?q4 ?q1 (fun _ _ _ _ _ => ?q2) (fun _ _ _ _ _ => ?q3) (fun _ => ?s7)); (case q0 => fail "fN"); (case q1 => fail "fI"); (case q2 => fail "fTs"); (case q3 => fail "fE"); (case q4 => (kernel_rfl)); (case q5 => (with_reducible assumption)); (case s0 => assumption); (case s1 => rfl); (case s2 => rfl); (case s3 => rfl); (case s4 => rfl); (case s5 => rfl); (case s6 => rfl); (case s7 => rfl))
  | ((with_reducible refine' ps_for PassesOwn.never ?s0 ?q0 ?q1 ?q2 ?q3); (case q0 => fail "fI"); (case q1 => fail "fG"); (case q2 => fail "fZ"); (case q3 => (intro _; rfl)); (case s0 => rfl))
  | ((with_reducible refine' ps_expr ?q0 ?s0); (case q0 => fail "fE"); (case s0 => rfl))
  | with_reducible exact ps_pass
  | with_reducible exact ps_never (st := .Raise _ _ _))
local macro_rules | `(tactic| fail "fZ") => `(tactic| first
  | with_reducible exact pss_nil
  | ((with_reducible refine' pss_one ?q0); (case q0 => fail "fS"))
  | ((with_reducible refine' pss_cons ?q0 ?q1); (case q0 => fail "fS"); (case q1 => fail "fZ")))
local macro_rules | `(tactic| fail "fTop") => `(tactic| (show PSs _ (_ :: _) _; fail "fZ"))
local macro_rules | `(tactic| fail "v1") => `(tactic| first
  | with_reducible refine ev_int ?_
  | with_reducible refine ev_str ?_
  | with_reducible refine ev_bl ?_
  | with_reducible refine ev_non ?_
  | ((with_reducible refine' ev_var ?zh ?znx); (case zh => rfl))
  | ((with_reducible refine' ev_pix ?zh ?znx); (case zh => rfl))
  | ((with_reducible refine' ev_sat ?zh ?znx); (case zh => rfl))
  | ((with_reducible refine' ev_slen ?zh ?znx); (case zh => rfl))
  | ((with_reducible refine' ev_ssum ?zh ?znx); (case zh => rfl))
  | with_reducible refine ev_op ?_
  | with_reducible refine ev_un ?_
  | with_reducible refine ev_isi (by decide) ?_
  | with_reducible refine ev_tup ?_
  | with_reducible refine ev_lst ?_
  | with_reducible refine ev_callF ?_
  | with_reducible refine ev_call ?_
  | ((with_reducible refine' ev_callP ?zh ?znx); (case zh => rfl))
  | with_reducible refine ev_cb ?_
  | with_reducible refine ev_sl ?_
  | with_reducible refine ev_revT ?_
  | with_reducible refine ev_dni ?_
  | with_reducible refine ev_dget ?_
  | with_reducible refine ev_and ?_
  | with_reducible refine ev_or ?_
  | with_reducible refine ev_not ?_
  | with_reducible refine ev_test ?_
  | with_reducible refine ev_tB ?_
  | with_reducible refine ev_if ?_
  | with_reducible refine ev_chain ?_
  | with_reducible refine eb_and ?_
  | with_reducible refine eb_or ?_
  | with_reducible refine eb_not ?_
  | with_reducible refine eb_yes ?_
  | with_reducible refine ea_nil ?_
  | with_reducible refine ea_cons ?_
  | with_reducible refine eo_none ?_
  | with_reducible refine eo_some ?_
  | with_reducible refine es_next ?_
  | with_reducible refine es_seq ?_
  | with_reducible refine es_ret ?_
  | with_reducible refine es_if ?_
  | with_reducible refine es_pput ?_
  | with_reducible refine es_parOwn ?_
  | with_reducible refine es_par ?_
  | with_reducible refine es_own ?_
  | with_reducible refine es_asg ?_
  | with_reducible refine eg_name ?_
  | with_reducible refine egs_cons ?_
  | with_reducible refine egs_nil ?_
  | ((with_reducible refine' eg_tup ?zh ?znx); (case zh => rfl)))
local macro_rules | `(tactic| fail "v2") => `(tactic| first
  | with_reducible refine rd_plusI ?_
  | with_reducible refine rd_lt ?_
  | with_reducible refine rd_leI ?_
  | with_reducible refine rd_leS ?_
  | with_reducible refine rd_gt ?_
  | with_reducible refine rd_ge ?_
  | with_reducible refine rd_geS ?_
  | with_reducible refine rd_isB ?_
  | with_reducible refine rd_isNotB ?_
  | with_reducible refine rd_isN ?_
  | with_reducible refine rd_isNotN ?_
  | with_reducible refine rd_inStr ?_
  | with_reducible refine rd_ninStr ?_
  | with_reducible refine rd_minus ?_
  | with_reducible refine rd_modI (by decide) ?_
  | with_reducible refine rd_overI (by decide) ?_
  | with_reducible refine rd_plusL (by decide) ?_
  | with_reducible refine rd_plusT (by decide) ?_
  | with_reducible refine rc_lenL ?_
  | with_reducible refine rc_lenT ?_
  | with_reducible refine rc_int ?_
  | with_reducible refine rc_intB ?_
  | with_reducible refine rc_max ?_
  | with_reducible refine rc_min ?_
  | with_reducible refine rc_tuple ?_
  | with_reducible refine rc_reprN ?_
  | with_reducible refine rs_list ?_
  | with_reducible refine rs_tup ?_
  | with_reducible refine rc_allM ?_
  | ((with_reducible refine' rd_eqA ?za ?zb ?znx); (case za => first | with_reducible assumption | rfl | decide +kernel); (case zb => first | with_reducible assumption | rfl | decide +kernel))
  | ((with_reducible refine' rd_neA ?za ?zb ?znx); (case za => first | with_reducible assumption | rfl | decide +kernel); (case zb => first | with_reducible assumption | rfl | decide +kernel))
  | ((with_reducible refine' rd_timesI ?za ?znx); (case za => first | exact .inr (by decide) | exact .inl (by decide) | exact .inl (fm _ (by decide))))
  | ((with_reducible refine' rd_ixT ?zh ?znx); (case zh => rfl))
  | ((with_reducible refine' rd_ixL ?zh ?znx); (case zh => rfl)))
local macro_rules | `(tactic| fail "vB") => `(tactic| first
  | (refine ⟨fun hc => ?_, fun hc => ?_⟩ <;> (try (exact Bool.noConfusion hc))))
local macro_rules | `(tactic| fail "v3") => `(tactic| first
  | with_reducible refine ⟨_, rfl, ?_⟩
  | with_reducible refine ⟨rfl, ?_⟩
  | with_reducible refine ⟨_, _, rfl, rfl, ?_⟩)
local macro_rules | `(tactic| fail "v") => `(tactic| repeat (first | fail "v1" | fail "v2" | fail "v3"))
local macro_rules | `(tactic| fail "w") => `(tactic| repeat' (first | fail "v1" | fail "v2" | fail "v3" | fail "vB" | fail))
local macro_rules | `(tactic| fail "v4") => `(tactic| first
  | ((refine ⟨Nat.le_of_ble_eq_true ?zsz, ?znx⟩); (case zsz => rfl)))
local macro_rules | `(tactic| fail "z") => `(tactic| repeat' (first | fail "v1" | fail "v2" | fail "v3" | fail "v4" | fail "vB" | fail))

/-! ### the text -/
def tp (i : Nat) : Stmt := PySem.Challenge.pw_sinceclocks_k02_what_is_a_machine.main.body.getD i (.Pass ⟨0, 0, 0, 0⟩)
abbrev sNum : Stmt := tp 1
theorem scsNum : FnScope ["thing", "least"] ["thing", "least"] (defScope sNum) := ⟨rfl, rfl, rfl, by decide +kernel, rfl, by decide +kernel, by decide +kernel⟩
abbrev sTup : Stmt := tp 2
theorem scsTup : FnScope ["thing", "size"] ["thing", "size"] (defScope sTup) := ⟨rfl, rfl, rfl, by decide +kernel, rfl, by decide +kernel, by decide +kernel⟩
abbrev sLet : Stmt := tp 3
theorem scsLet : FnScope ["thing"] ["thing"] (defScope sLet) := ⟨rfl, rfl, rfl, by decide +kernel, rfl, by decide +kernel, by decide +kernel⟩
abbrev sWhole : Stmt := tp 17
theorem scsWhole : FnScope ["thing"] ["thing"] (defScope sWhole) := ⟨rfl, rfl, rfl, by decide +kernel, rfl, by decide +kernel, by decide +kernel⟩
abbrev sFrom : Stmt := tp 23
theorem scsFrom : FnScope ["thing", "low"] ["thing", "low"] (defScope sFrom) := ⟨rfl, rfl, rfl, by decide +kernel, rfl, by decide +kernel, by decide +kernel⟩
abbrev sLetL : Stmt := tp 24
theorem scsLetL : FnScope ["thing"] ["thing"] (defScope sLetL) := ⟨rfl, rfl, rfl, by decide +kernel, rfl, by decide +kernel, by decide +kernel⟩
abbrev sMix : Stmt := tp 14
theorem scsMix : FnScope ["cell", "k", "number"] ["cell", "k"] (defScope sMix) := ⟨rfl, rfl, rfl, by decide +kernel, rfl, by decide +kernel, by decide +kernel⟩
abbrev sPile : Stmt := tp 15
theorem scsPile : FnScope ["script", "k", "cell", "found", "j"] ["script", "k"] (defScope sPile) := ⟨rfl, rfl, rfl, by decide +kernel, rfl, by decide +kernel, by decide +kernel⟩
abbrev sTake : Stmt := tp 16
theorem scsTake : FnScope ["pile", "size", "j", "digit"] ["pile", "size"] (defScope sTake) := ⟨rfl, rfl, rfl, by decide +kernel, rfl, by decide +kernel, by decide +kernel⟩
abbrev sLtrs : Stmt := tp 18
theorem scsLtrs : FnScope ["pile"] ["pile"] (defScope sLtrs) := ⟨rfl, rfl, rfl, by decide +kernel, rfl, by decide +kernel, by decide +kernel⟩
def isNum (j : Int) : PyData → Bool
  | .int i => decide (j ≤ i)
  | _ => false
def isInt : PyData → Bool
  | .int _ => true
  | _ => false
def isTup (n : Int) : PyData → Bool
  | .tuple ds => (ds.length : Int) == n
  | _ => false
def isLet : PyData → Bool
  | .str x => match x.cps.toList with
    | [c] => decide (97 ≤ c ∧ c ≤ 122)
    | _ => false
  | _ => false
mutual
/-- nothing in it is long -/
def sm : PyData → Bool
  | .str x => decide (x.length ≤ 1000)
  | .list ds => decide (ds.length ≤ 1000) && smA ds
  | .tuple ds => decide (ds.length ≤ 1000) && smA ds
  | .dict _ => false
  | _ => true
def smA : List PyData → Bool
  | [] => true
  | d :: ds => sm d && smA ds
end
theorem str_one (x : Str) (h : x.length = 1) : ∃ c, x = ⟨#[c]⟩ := by
  obtain ⟨⟨l⟩⟩ := x
  have h' : l.length = 1 := h
  match l, h' with
  | [c], _ => exact ⟨c, rfl⟩
theorem sm_str {x : Str} (h : sm (.str x) = true) : x.length ≤ sizeLine := by
  have h' : x.length ≤ 1000 := by simpa [sm] using h
  exact Nat.le_trans h' (by decide)
theorem sm_tup {ds : List PyData} (h : sm (.tuple ds) = true) : ds.length ≤ 1000 ∧ smA ds = true := by simpa [sm] using h
theorem isLet_len {x : Str} (h : x.length ≠ 1) : isLet (.str x) = false := by
  obtain ⟨⟨l⟩⟩ := x
  have h' : l.length ≠ 1 := h
  match l, h' with
  | [], _ => rfl
  | [c], h => exact absurd rfl h
  | _ :: _ :: _, _ => rfl
abbrev preN : List PyData → Prop := fun ds => ∃ d j, ds = [d, .int j]
abbrev preD : List PyData → Prop := fun ds => ∃ d, ds = [d] ∧ sm d = true
theorem smA_mem {d : PyData} : ∀ {ds : List PyData}, smA ds = true → d ∈ ds → sm d = true
  | [], _, h => by cases h
  | e :: es, h, hm => by
    have h' : (sm e && smA es) = true := h
    rw [Bool.and_eq_true] at h'
    rcases List.mem_cons.mp hm with rfl | q
    · exact h'.1
    · exact smA_mem h'.2 q
def fWhole : List PyData → PyData
  | [d] => .bool (isInt d)
  | _ => .none
abbrev preII : List PyData → Prop := fun ds => ∃ a b, ds = [.int a, .int b]
abbrev postI : List PyData → PyData → Prop := fun _ d => ∃ z, d = .int z
abbrev preT : List PyData → Prop := fun ds => ∃ n : Int, ds = [.int n] ∧ 1 ≤ n ∧ n ≤ 1000
abbrev postT : List PyData → PyData → Prop := fun ds d => ∃ n z : Int, ds = [.int n] ∧ d = .int z ∧ 0 ≤ z ∧ z < n
mutual
/-- nothing in it is longer than k -/
def smB (k : Nat) : PyData → Bool
  | .str x => decide (x.length ≤ k)
  | .list ds => decide (ds.length ≤ k) && smBA k ds
  | .tuple ds => decide (ds.length ≤ k) && smBA k ds
  | .dict _ => false
  | _ => true
def smBA (k : Nat) : List PyData → Bool
  | [] => true
  | d :: ds => smB k d && smBA k ds
end
theorem smBA_iff {k : Nat} : ∀ {ds : List PyData}, smBA k ds = true ↔ ∀ d, d ∈ ds → smB k d = true
  | [] => ⟨fun _ _ h => (by cases h), fun _ => rfl⟩
  | d :: ds => by
    show (smB k d && smBA k ds) = true ↔ _
    rw [Bool.and_eq_true, smBA_iff]
    constructor
    · rintro ⟨h1, h2⟩ e he
      rcases List.mem_cons.mp he with rfl | q
      · exact h1
      · exact h2 e q
    · exact fun h => ⟨h d List.mem_cons_self, fun e he => h e (List.mem_cons_of_mem _ he)⟩
theorem smB_tup {k : Nat} {ds : List PyData} : smB k (.tuple ds) = true ↔ ds.length ≤ k ∧ ∀ d, d ∈ ds → smB k d = true := by
  show (decide (ds.length ≤ k) && smBA k ds) = true ↔ _
  rw [Bool.and_eq_true, decide_eq_true_eq, smBA_iff]
theorem smB_lst {k : Nat} {ds : List PyData} : smB k (.list ds) = true ↔ ds.length ≤ k ∧ ∀ d, d ∈ ds → smB k d = true := by
  show (decide (ds.length ≤ k) && smBA k ds) = true ↔ _
  rw [Bool.and_eq_true, decide_eq_true_eq, smBA_iff]
mutual
theorem smB_mono {j k : Nat} (h : j ≤ k) : ∀ d : PyData, smB j d = true → smB k d = true
  | .none, _ => rfl
  | .bool _, _ => rfl
  | .int _, _ => rfl
  | .str x, q => by
    have q' : x.length ≤ j := of_decide_eq_true q
    exact decide_eq_true (by omega)
  | .list ds, q => by
    have q' : (decide (ds.length ≤ j) && smBA j ds) = true := q
    rw [Bool.and_eq_true, decide_eq_true_eq] at q'
    show (decide (ds.length ≤ k) && smBA k ds) = true
    rw [Bool.and_eq_true, decide_eq_true_eq]
    exact ⟨by omega, smBA_mono h ds q'.2⟩
  | .tuple ds, q => by
    have q' : (decide (ds.length ≤ j) && smBA j ds) = true := q
    rw [Bool.and_eq_true, decide_eq_true_eq] at q'
    show (decide (ds.length ≤ k) && smBA k ds) = true
    rw [Bool.and_eq_true, decide_eq_true_eq]
    exact ⟨by omega, smBA_mono h ds q'.2⟩
  | .dict _, q => by cases q
theorem smBA_mono {j k : Nat} (h : j ≤ k) : ∀ ds : List PyData, smBA j ds = true → smBA k ds = true
  | [], _ => rfl
  | d :: ds, q => by
    have q' : (smB j d && smBA j ds) = true := q
    rw [Bool.and_eq_true] at q'
    show (smB k d && smBA k ds) = true
    rw [Bool.and_eq_true]
    exact ⟨smB_mono h d q'.1, smBA_mono h ds q'.2⟩
end
mutual
theorem sm_of : ∀ d : PyData, smB 1000 d = true → sm d = true
  | .none, _ => rfl
  | .bool _, _ => rfl
  | .int _, _ => rfl
  | .str x, q => q
  | .list ds, q => by
    have q' : (decide (ds.length ≤ 1000) && smBA 1000 ds) = true := q
    rw [Bool.and_eq_true] at q'
    show (decide (ds.length ≤ 1000) && smA ds) = true
    rw [q'.1, smA_of ds q'.2]; rfl
  | .tuple ds, q => by
    have q' : (decide (ds.length ≤ 1000) && smBA 1000 ds) = true := q
    rw [Bool.and_eq_true] at q'
    show (decide (ds.length ≤ 1000) && smA ds) = true
    rw [q'.1, smA_of ds q'.2]; rfl
  | .dict _, q => by cases q
theorem smA_of : ∀ ds : List PyData, smBA 1000 ds = true → smA ds = true
  | [], _ => rfl
  | d :: ds, q => by
    have q' : (smB 1000 d && smBA 1000 ds) = true := q
    rw [Bool.and_eq_true] at q'
    show (sm d && smA ds) = true
    rw [sm_of d q'.1, smA_of ds q'.2]; rfl
end
/-- data that == and repr go over, small in depth -/
structure Fine (n : Nat) (d : PyData) : Prop where
  nd : noDict d = true
  cl : PyData.canLay0 d = true
  dp : PyData.depth d ≤ n
structure FineA (n : Nat) (ds : List PyData) : Prop where
  nd : noDictAll ds = true
  cl : PyData.canLayAll0 ds = true
  dp : PyData.depthAll ds ≤ n
theorem fineA_iff {n : Nat} : ∀ {ds : List PyData}, FineA n ds ↔ ∀ d, d ∈ ds → Fine n d
  | [] => ⟨fun _ _ h => (by cases h), fun _ => ⟨rfl, rfl, Nat.zero_le _⟩⟩
  | d :: ds => by
    constructor
    · rintro ⟨h1, h2, h3⟩ e he
      have h1' : (noDict d && noDictAll ds) = true := h1
      have h2' : (PyData.canLay0 d && PyData.canLayAll0 ds) = true := h2
      have h3' : max (PyData.depth d) (PyData.depthAll ds) ≤ n := h3
      rw [Bool.and_eq_true] at h1' h2'
      rcases List.mem_cons.mp he with rfl | q
      · exact ⟨h1'.1, h2'.1, by omega⟩
      · exact fineA_iff.mp ⟨h1'.2, h2'.2, by omega⟩ e q
    · intro h
      have a := h d List.mem_cons_self
      have b := fineA_iff.mpr fun e he => h e (List.mem_cons_of_mem _ he)
      refine ⟨?_, ?_, ?_⟩
      · show (noDict d && noDictAll ds) = true
        rw [a.nd, b.nd]; rfl
      · show (PyData.canLay0 d && PyData.canLayAll0 ds) = true
        rw [a.cl, b.cl]; rfl
      · show max (PyData.depth d) (PyData.depthAll ds) ≤ n
        have := a.dp
        have := b.dp
        omega
theorem fine_tup {n : Nat} {ds : List PyData} (h : ∀ d, d ∈ ds → Fine n d) : Fine (n + 1) (.tuple ds) := by
  have := fineA_iff.mpr h
  exact ⟨this.nd, this.cl, Nat.succ_le_succ this.dp⟩
theorem fine_items {n : Nat} {ds : List PyData} (h : Fine n (.tuple ds)) : ∀ d, d ∈ ds → Fine n d := fineA_iff.mp ⟨h.nd, h.cl, by
  have h3 : PyData.depthAll ds + 1 ≤ n := h.dp
  omega⟩
theorem fine_eqOk {n : Nat} {d : PyData} (h : Fine n d) (hn : n ≤ 64) : eqOk d = true := by
  show (noDict d && (PyData.canLay0 d && decide (PyData.depth d ≤ 64))) = true
  rw [h.nd, h.cl, decide_eq_true (Nat.le_trans h.dp hn)]; rfl
theorem fine_let {c : Nat} (h : c < 200) (n : Nat) : Fine n (.str ⟨#[c]⟩) := by
  refine ⟨rfl, ?_, Nat.zero_le _⟩
  show (#[c]).all (· < 0x110000) = true
  simp
  omega
theorem tupText_le {b : Nat} {ts : List Str} (h : ∀ t, t ∈ ts → t.length ≤ b) : (tupleText ts).length ≤ ts.length * (b + 2) + 3 := by
  have hp : ∀ ts : List Str, (∀ t, t ∈ ts → t.length ≤ b) → piled ts ≤ ts.length * (b + 2) := by
    intro ts
    induction ts with
    | nil =>
      intro _
      have : piled [] = 0 := rfl
      rw [this]
      exact Nat.zero_le _
    | cons t ts ih =>
      intro h
      rw [piled_cons, List.length_cons, Nat.add_mul]
      have h1 := h t List.mem_cons_self
      have h2 := ih fun u hu => h u (List.mem_cons_of_mem _ hu)
      omega
  have hj : (Str.join ", " ts).length ≤ ts.length * (b + 2) := by
    cases ts with
    | nil =>
      have : (Str.join (Str.ofString ", ") []).length = 0 := by decide
      show (Str.join (Str.ofString ", ") []).length ≤ _
      rw [this]
      exact Nat.zero_le _
    | cons t r =>
      have := join_length_add (t :: r) (by simp)
      have := hp (t :: r) h
      omega
  unfold tupleText
  rw [Str.length_append, Str.length_append]
  have e1 : (Str.ofString "(").length = 1 := by decide
  have e2 : (Str.ofString (if ts.length == 1 then ",)" else ")")).length ≤ 2 := by split <;> decide
  have e1' : (("(" : String) : Str).length = 1 := e1
  omega
theorem shownAll_map : ∀ ds : List PyData, PyData.shownAll ds = ds.map PyData.shown
  | [] => rfl
  | d :: ds => by
    show PyData.shown d :: PyData.shownAll ds = _
    rw [shownAll_map ds]; rfl
theorem shown_tup {b : Nat} {ds : List PyData} (h : ∀ d, d ∈ ds → (PyData.shown d).length ≤ b) : (PyData.shown (.tuple ds)).length ≤ ds.length * (b + 2) + 3 := by
  show (tupleText (PyData.shownAll ds)).length ≤ _
  rw [shownAll_map]
  refine Nat.le_trans (tupText_le (b := b) fun t ht => ?_) (by rw [List.length_map]; exact Nat.le_refl _)
  obtain ⟨d, hd, rfl⟩ := List.mem_map.mp ht
  exact h d hd
theorem log_small {i : Int} (h : i.natAbs < 2 ^ 20) : i.natAbs.log2 < 1920 := by
  by_cases z : i.natAbs = 0
  · rw [z]; decide
  · exact Nat.lt_trans ((Nat.log2_lt z).mpr h) (by decide)
theorem shown_int {i : Int} (h : i.natAbs < 2 ^ 20) : (PyData.shown (.int i)).length ≤ 1921 := int_text_len_1921 (log_small h)
theorem at_nat {ds : List PyData} {m : Nat} {d : PyData} (h : ds[m]? = some d) : L2.atI ds (m : Int) = some d := by
  have lt : m < ds.length := (List.getElem?_eq_some_iff.mp h).1
  have e : L2.ixN ds.length (m : Int) = some m := by
    unfold L2.ixN
    rw [if_pos (by omega), if_pos (by omega)]
    rfl
  unfold L2.atI
  rw [e]
  exact h
theorem smA_mk : ∀ {ds : List PyData}, (∀ d, d ∈ ds → sm d = true) → smA ds = true
  | [], _ => rfl
  | d :: ds, h => by
    show (sm d && smA ds) = true
    rw [h d List.mem_cons_self, smA_mk fun e he => h e (List.mem_cons_of_mem _ he)]; rfl
theorem sm_mk {ds : List PyData} (hl : ds.length ≤ 1000) (h : ∀ d, d ∈ ds → sm d = true) : sm (.tuple ds) = true := by
  show (decide (ds.length ≤ 1000) && smA ds) = true
  rw [decide_eq_true hl, smA_mk h]; rfl
theorem cut_mem {ds : List PyData} {lo hi : Option Int} {d : PyData} (h : d ∈ FD.cutD ds lo hi) : d ∈ ds := List.mem_of_mem_drop (List.mem_of_mem_take h)
theorem cut_len (ds : List PyData) (lo hi : Option Int) : (FD.cutD ds lo hi).length ≤ ds.length := by
  unfold FD.cutD
  rw [List.length_take, List.length_drop]
  omega
section
variable {P : Program} {w : World} {K : PySem.W.Frag} {mg : Str → Option Value} {base : Heap} {f : Addr} {fd : FuncData}
def fNum : List PyData → PyData
  | [d, .int j] => .bool (isNum j d)
  | _ => .none
theorem ok_num (F : L2.Fun K "is_number" "is_number" sNum f fd) (bi : Bi mg) :
    FnG P w K mg base 1 f fd ["thing", "least"] (spF 2 (fun ds => ∃ d j, ds = [d, .int j]) fNum) := by
  refine fnD F scsNum _ _ fun cdv A outer s H hg hr => ?_
  refine' ⟨_, ?h1, ?h2⟩
  case h1 =>
    have km : KMark K := ⟨⟩
    have nd : (["thing", "least"] : List Str).Nodup := by decide +kernel
    have : (["thing", "least"] : List Str)[0]? = some ("thing" : Str) := rfl
    have : (["thing", "least"] : List Str)[1]? = some ("least" : Str) := rfl
    fail "fTop"
  case h2 =>
    rintro ds hl ⟨d, j, rfl⟩
    try dsimp only [cxK, blkK]
    show EvS K _ [some (.dat d), some (.dat (.int j))] _
    cases d
    all_goals (fail "w")
    all_goals rfl
def fTup : List PyData → PyData
  | [d, .int j] => .bool (isTup j d)
  | _ => .none
theorem ok_tup (F : L2.Fun K "is_tuple" "is_tuple" sTup f fd) (bi : Bi mg) :
    FnG P w K mg base 1 f fd ["thing", "size"] (spF 2 (fun ds => ∃ d j, ds = [d, .int j]) fTup) := by
  refine fnD F scsTup _ _ fun cdv A outer s H hg hr => ?_
  refine' ⟨_, ?h1, ?h2⟩
  case h1 =>
    have km : KMark K := ⟨⟩
    have nd : (["thing", "size"] : List Str).Nodup := by decide +kernel
    have : (["thing", "size"] : List Str)[0]? = some ("thing" : Str) := rfl
    have : (["thing", "size"] : List Str)[1]? = some ("size" : Str) := rfl
    fail "fTop"
  case h2 =>
    rintro ds hl ⟨d, j, rfl⟩
    try dsimp only [cxK, blkK]
    show EvS K _ [some (.dat d), some (.dat (.int j))] _
    cases d
    all_goals (fail "w")
    all_goals rfl
theorem eqv_int (i j : Int) : PyData.eqv (.int i) (.int j) = (i == j) := rfl
theorem len_one {x : Str} (h : PyData.eqv (.int x.length) (.int 1) = true) : x.length = 1 := by
  have h' : ((x.length : Int) == 1) = true := h
  have := eq_of_beq h'
  omega
theorem len_not {x : Str} (h : PyData.eqv (.int x.length) (.int 1) = false) : x.length ≠ 1 := by
  have h' : ((x.length : Int) == 1) = false := h
  intro e
  rw [e] at h'
  cases h'
theorem one_lt (a b : Nat) : ([a] < [b]) ↔ a < b := by
  constructor
  · intro h
    cases h with
    | cons h => cases h
    | rel h => exact h
  · exact fun h => .rel h
theorem let_in (c : Nat) : (!(Builtin.Str.occurrences "abcdefghijklmnopqrstuvwxyz" ⟨#[c]⟩ 0 (Str.length "abcdefghijklmnopqrstuvwxyz") 1).isEmpty) = decide (97 ≤ c ∧ c ≤ 122) := by
  rw [PySem.StrLaws.found_one]
  apply decide_eq_decide.mpr
  have e : (Str.ofString "abcdefghijklmnopqrstuvwxyz").cps.toList = [97, 98, 99, 100, 101, 102, 103, 104, 105, 106, 107, 108, 109, 110, 111, 112, 113, 114, 115, 116, 117, 118, 119, 120, 121, 122] := by decide +kernel
  rw [e]
  simp only [List.mem_cons, List.not_mem_nil, or_false]
  omega
def fLet : List PyData → PyData
  | [d] => .bool (isLet d)
  | _ => .none
theorem ok_let (F : L2.Fun K "is_letter" "is_letter" sLet f fd) (bi : Bi mg) :
    FnG P w K mg base 1 f fd ["thing"] (spF 1 (fun ds => ∃ d, ds = [d] ∧ sm d = true) fLet) := by
  refine fnD F scsLet _ _ fun cdv A outer s H hg hr => ?_
  refine' ⟨_, ?h1, ?h2⟩
  case h1 =>
    have km : KMark K := ⟨⟩
    have nd : (["thing"] : List Str).Nodup := by decide +kernel
    have : (["thing"] : List Str)[0]? = some ("thing" : Str) := rfl
    fail "fTop"
  case h2 =>
    rintro ds hl ⟨d, rfl, hd⟩
    try dsimp only [cxK, blkK]
    show EvS K _ [some (.dat d)] _
    cases d
    case str x =>
      have ea : (Str.ofString "a").cps.toList = [97] := by decide +kernel
      have ez : (Str.ofString "z").cps.toList = [122] := by decide +kernel
      fail "w"
      refine rc_lenS (sm_str hd) ?_
      fail "w"
      · rename_i h1 h
        obtain ⟨c, rfl⟩ := str_one x (len_one h1)
        rw [ea] at h
        rw [ez]
        show PyData.bool (!decide ([122] < [c])) = PyData.bool (decide (97 ≤ c ∧ c ≤ 122))
        have h' : ¬ [c] < [97] := by simpa using h
        rw [one_lt] at h'
        congr 1
        by_cases q : 122 < c
        · rw [decide_eq_true ((one_lt 122 c).mpr q), decide_eq_false (by omega)]; rfl
        · rw [decide_eq_false (fun z => q ((one_lt 122 c).mp z)), decide_eq_true (by omega)]; rfl
      · rename_i h1 h
        obtain ⟨c, rfl⟩ := str_one x (len_one h1)
        rw [ea] at h
        show PyData.bool false = PyData.bool (decide (97 ≤ c ∧ c ≤ 122))
        have h' : [c] < [97] := by simpa using h
        rw [one_lt] at h'
        rw [decide_eq_false (by omega)]
      · rename_i h
        show PyData.bool false = PyData.bool (isLet (.str x))
        rw [isLet_len (len_not h)]
    all_goals (fail "w")
    all_goals rfl
theorem ok_mix (F : L2.Fun K "_law_mixed" "_law_mixed" sMix f fd) (bi : Bi mg) : FnG P w K mg base 1 f fd ["cell", "k"] (spD 2 preII postI) := by
  refine fnD F scsMix _ _ fun cdv A outer s H hg hr => ?_
  refine' ⟨_, ?h1, ?h2⟩
  case h1 =>
    have km : KMark K := ⟨⟩
    have nd : (["cell", "k", "number"] : List Str).Nodup := by decide +kernel
    have : (["cell", "k", "number"] : List Str)[0]? = some ("cell" : Str) := rfl
    have : (["cell", "k", "number"] : List Str)[1]? = some ("k" : Str) := rfl
    have : (["cell", "k", "number"] : List Str)[2]? = some ("number" : Str) := rfl
    fail "fTop"
  case h2 =>
    rintro ds hl ⟨a, b, rfl⟩
    show EvS K _ [some (.dat (.int a)), some (.dat (.int b)), none] _
    fail "w"
    exact ⟨_, rfl⟩
theorem ok_whole (F : L2.Fun K "_law_whole" "_law_whole" sWhole f fd) (bi : Bi mg) : FnG P w K mg base 1 f fd ["thing"] (spF 1 (fun ds => ∃ d, ds = [d]) fWhole) := by
  refine fnD F scsWhole _ _ fun cdv A outer s H hg hr => ?_
  refine' ⟨_, ?h1, ?h2⟩
  case h1 =>
    have km : KMark K := ⟨⟩
    have nd : (["thing"] : List Str).Nodup := by decide +kernel
    have : (["thing"] : List Str)[0]? = some ("thing" : Str) := rfl
    fail "fTop"
  case h2 =>
    rintro ds hl ⟨d, rfl⟩
    show EvS K _ [some (.dat d)] _
    cases d
    all_goals (fail "w")
    all_goals rfl
theorem ok_from (F : L2.Fun K "_law_is_from" "_law_is_from" sFrom f fd) (bi : Bi mg) (c1 : Cal P w K mg base 1 "_law_whole" ["thing"] (spF 1 (fun ds => ∃ d, ds = [d]) fWhole)) :
    FnG P w K mg base 2 f fd ["thing", "low"] (spF 2 preN fNum) := by
  refine fnD F scsFrom _ _ fun cdv A outer s H hg hr => ?_
  refine' ⟨_, ?h1, ?h2⟩
  case h1 =>
    have km : KMark K := ⟨⟩
    have nd : (["thing", "low"] : List Str).Nodup := by decide +kernel
    have : (["thing", "low"] : List Str)[0]? = some ("thing" : Str) := rfl
    have : (["thing", "low"] : List Str)[1]? = some ("low" : Str) := rfl
    fail "fTop"
  case h2 =>
    rintro ds hl ⟨d, j, rfl⟩
    show EvS K _ [some (.dat d), some (.dat (.int j))] _
    fail "w"
    refine ⟨⟨_, rfl⟩, isInt d, rfl, fun h => ?_, fun h => ?_⟩
    · cases d with
      | int i => fail "w"; rfl
      | _ => cases h
    · cases d with
      | int i => cases h
      | _ => rfl
theorem ok_letL (F : L2.Fun K "_law_is_letter" "_law_is_letter" sLetL f fd) (bi : Bi mg) : FnG P w K mg base 1 f fd ["thing"] (spF 1 preD fLet) := by
  refine fnD F scsLetL _ _ fun cdv A outer s H hg hr => ?_
  refine' ⟨_, ?h1, ?h2⟩
  case h1 =>
    have km : KMark K := ⟨⟩
    have nd : (["thing"] : List Str).Nodup := by decide +kernel
    have : (["thing"] : List Str)[0]? = some ("thing" : Str) := rfl
    fail "fTop"
  case h2 =>
    rintro ds hl ⟨d, rfl, hd⟩
    show EvS K _ [some (.dat d)] _
    cases d
    case str x =>
      fail "w"
      refine rc_lenS (sm_str hd) ?_
      fail "w"
      · rename_i h
        obtain ⟨c, rfl⟩ := str_one x (len_one h)
        show PyData.bool (!_) = PyData.bool (decide (97 ≤ c ∧ c ≤ 122))
        rw [← let_in]
      · rename_i h
        show PyData.bool false = PyData.bool (isLet (.str x))
        rw [isLet_len (len_not h)]
    all_goals (fail "w")
    all_goals rfl
theorem ok_take (F : L2.Fun K "_law_take" "_law_take" sTake f fd) (bi : Bi mg) (c1 : Cal P w K mg base 1 "_law_mixed" ["cell", "k"] (spD 2 preII postI)) :
    FnG P w K mg base 2 f fd ["pile", "size"] (spP 1 preT postT) := by
  refine fnP F scsTake (by simp) _ _ fun cdv A outer s H hg hr => ?_
  refine' ⟨_, ?h1, ?h2⟩
  case h1 =>
    have km : KMark K := ⟨⟩
    have nd : (["pile", "size", "j", "digit"] : List Str).Nodup := by decide +kernel
    have : (["pile", "size", "j", "digit"] : List Str)[0]? = some ("pile" : Str) := rfl
    have : (["pile", "size", "j", "digit"] : List Str)[1]? = some ("size" : Str) := rfl
    have : (["pile", "size", "j", "digit"] : List Str)[2]? = some ("j" : Str) := rfl
    have : (["pile", "size", "j", "digit"] : List Str)[3]? = some ("digit" : Str) := rfl
    fail "fTop"
  case h2 =>
    rintro p ds hl ⟨n, rfl, h1, h2⟩
    show EvS K _ [some (.pile p), some (.dat (.int n)), none, none] _
    fail "w"
    refine ⟨by decide, fun z => ?_⟩
    fail "v1"
    have nz : n ≠ 0 := by omega
    have n30 : CDivN n n := ⟨nz, by omega⟩
    have fin : ∀ a : Option Sl, EvS K (tSeq (tAsg (tOp rMod (tCB rInt (tCons (tOp (rIx K) (tVar 0) (tC (V.int 0))) tNil)) (tVar 1)) (gName 3))
        (tSeq (tAsg (tOp rOver (tOp (rIx K) (tVar 0) (tC (V.int 0))) (tVar 1)) (gSub (tVar 0) (tC (V.int 0)) rSetL)) (tRet (tVar 3))))
        [some (.pile p), some (.dat (.int n)), a, none] { nx := fun _ => False, rt := fun e d => e[0]? = some (some (.pile p)) ∧ postT [.int n] d } := fun a => by
      fail "w"
      refine ⟨by decide, fun y => ?_⟩
      fail "w"
      refine rd_modI nz ?_
      fail "w"
      refine ⟨by decide, fun y2 => ?_⟩
      fail "w"
      refine rd_overI ⟨nz, by omega⟩ ?_
      refine ⟨⟨_, rfl⟩, ⟨p, rfl⟩, ?_⟩
      fail "w"
      refine ⟨⟨0, rfl, by decide⟩, ?_⟩
      fail "w"
      exact ⟨Int.fmod_nonneg_of_pos _ (by omega), Int.fmod_lt_of_pos _ (by omega)⟩
    refine rd_eqA (by rfl) (by rfl) ⟨_, rfl, fun _ => ?_, fun _ => es_next (fin none)⟩
    fail "w"
    refine ⟨by decide, fun y => ?_⟩
    fail "w"
    refine ⟨⟨_, rfl⟩, ⟨p, rfl⟩, ?_⟩
    fail "w"
    refine ⟨⟨2, rfl, by decide⟩, ?_⟩
    refine es_for (ei_rng1 (ea_cons (ev_int (ea_nil ⟨_, rfl, by decide, ?_⟩))))
    refine ⟨fun m e => ∃ a, e = [some (.pile p), some (.dat (.int n)), a, none], ⟨none, rfl⟩, ?_, ?_⟩
    · rintro m d e hd ⟨a, rfl⟩
      obtain ⟨hm, rfl⟩ := nums_get hd
      fail "w"
      refine ⟨by decide, fun y => ?_⟩
      fail "w"
      refine ⟨by decide, fun y2 => ?_⟩
      fail "w"
      refine ⟨by decide, fun y3 => ?_⟩
      fail "w"
      have hm' : m < 6 := hm
      refine rd_timesI (.inl ⟨by omega, by omega⟩) ?_
      fail "w"
      refine ⟨⟨_, _, rfl⟩, ?_⟩
      rintro d ⟨z2, rfl⟩
      fail "w"
      refine ⟨⟨_, rfl⟩, ⟨p, rfl⟩, ?_⟩
      fail "w"
      exact ⟨⟨0, rfl, by decide⟩, _, rfl⟩
    · rintro e ⟨a, rfl⟩
      exact fin a
theorem ok_pile (F : L2.Fun K "_law_pile" "_law_pile" sPile f fd) (bi : Bi mg) (c1 : Cal P w K mg base 1 "_law_mixed" ["cell", "k"] (spD 2 preII postI)) :
    FnG P w K mg base 2 f fd ["script", "k"] (spN K) := by
  refine fnN F scsPile rfl fun cdv A outer s H hg hr => ?_
  refine' ⟨_, ?h1, ?h2⟩
  case h1 =>
    have km : KMark K := ⟨⟩
    have nd : (["script", "k", "cell", "found", "j"] : List Str).Nodup := by decide +kernel
    have : (["script", "k", "cell", "found", "j"] : List Str)[0]? = some ("script" : Str) := rfl
    have : (["script", "k", "cell", "found", "j"] : List Str)[1]? = some ("k" : Str) := rfl
    have : (["script", "k", "cell", "found", "j"] : List Str)[2]? = some ("cell" : Str) := rfl
    have : (["script", "k", "cell", "found", "j"] : List Str)[3]? = some ("found" : Str) := rfl
    have : (["script", "k", "cell", "found", "j"] : List Str)[4]? = some ("j" : Str) := rfl
    fail "fTop"
  case h2 =>
    rintro p ns k hl hk
    have p18 : CPow 10 18 := ⟨by decide, by decide, by decide +kernel⟩
    have p60 : CPow 10 60 := ⟨by decide, by decide, by decide +kernel⟩
    have fin : ∀ c : Int, EvS K (tSeq (tIfS (tTest (tOp rGe (tVar 2) (tOp rPow (tC (V.int 10)) (tC (V.int 18)))))
        (tRet (tLst (tCons (tOp rMod (tCB rInt (tCons (tOp rMinus (tVar 2) (tOp rPow (tC (V.int 10)) (tC (V.int 18)))) tNil))
          (tOp (rTimes K) (tOp (rTimes K) (tOp (rTimes K) (tOp rPow (tC (V.int 10)) (tC (V.int 60))) (tOp rPow (tC (V.int 10)) (tC (V.int 60)))) (tOp rPow (tC (V.int 10)) (tC (V.int 60)))) (tOp rPow (tC (V.int 10)) (tC (V.int 60)))))
          (tCons (tOp rMod (tCB rInt (tCons (tVar 2) tNil)) (tC (V.int 2147483647))) (tCons (tVar 1) tNil))))) tNext)
        (tSeq (tAsg (tC (V.int 0)) (gName 3)) (tSeq (tFor (iRng1 (tCons (tC (V.int 24)) tNil)) (gName 4)
          (tAsg (tOp (rPlus K) (tOp (rTimes K) (tVar 3) (tC (V.int 2147483579))) (tCB (callOf (spD 2 preII postI)) (tCons (tVar 2) (tCons (tOp (rPlus K) (tOp (rPlus K) (tOp (rTimes K) (tC (V.int 7)) (tVar 1)) (tOp (rTimes K) (tC (V.int 100)) (tVar 4))) (tOp (rTimes K) (tVar 4) (tVar 4))) tNil)))) (gName 3)))
          (tRet (tLst (tCons (tVar 3) (tCons (tOp rMod (tCB rInt (tCons (tVar 2) tNil)) (tC (V.int 2147483647))) (tCons (tVar 1) tNil))))))))
        [some (.script p ns), some (.dat (.int k)), some (.dat (.int c)), none, none] { nx := fun _ => False, rn := fun _ => True } := fun c => by
      refine es_seq (es_if ?_)
      fail "w"
      refine rd_pow p18 (rd_ge ⟨_, rfl, fun _ => ?_, fun _ => es_next ?_⟩)
      · refine es_retN ?_
        fail "w"
        refine rd_pow p18 ?_
        fail "w"
        refine rd_pow p60 ?_
        fail "w"
        refine rd_pow p60 ?_
        refine rd_timesW (by show _ < _; decide +kernel) ?_
        fail "w"
        refine rd_pow p60 ?_
        refine rd_timesW (by show _ < _; decide +kernel) ?_
        fail "w"
        refine rd_pow p60 ?_
        refine rd_timesW (by show _ < _; decide +kernel) ?_
        refine rd_modI (by decide +kernel) ?_
        fail "w"
        exact ⟨⟨_, _, _, rfl⟩, trivial⟩
      · refine es_seq (es_asg (ev_int (eg_name (es_seq ?_))))
        refine es_for (ei_rng1 (ea_cons (ev_int (ea_nil ⟨_, rfl, by decide, ?_⟩))))
        refine ⟨fun m e => ∃ z a, e = [some (.script p ns), some (.dat (.int k)), some (.dat (.int c)), some (.dat (.int z)), a], ⟨0, none, rfl⟩, ?_, ?_⟩
        · rintro m d e hd ⟨z, a, rfl⟩
          obtain ⟨hm, rfl⟩ := nums_get hd
          fail "w"
          have hm' : m < 24 := hm
          refine rd_timesI (.inl ⟨by omega, by omega⟩) ?_
          fail "w"
          refine ⟨⟨_, _, rfl⟩, ?_⟩
          rintro d ⟨z2, rfl⟩
          fail "w"
          exact ⟨_, _, rfl⟩
        · rintro e ⟨z, a, rfl⟩
          refine es_retN ?_
          fail "w"
          exact ⟨⟨_, _, _, rfl⟩, trivial⟩
    show EvS K _ [some (.script p ns), some (.dat (.int k)), none, none, none] _
    fail "v1"
    fail "v1"
    fail "v1"
    fail "v1"
    fail "v1"
    refine ⟨⟨_, rfl⟩, fun z => ?_⟩
    fail "v1"
    fail "v2"
    fail "v1"
    fail "v1"
    refine es_if ?_
    fail "v1"
    fail "v1"
    fail "v1"
    fail "v1"
    refine rd_lt ⟨_, rfl, fun hc => ?_, fun hc => es_next (fin _)⟩
    have hc' : k < ns.length := of_decide_eq_true hc
    fail "v1"
    fail "v1"
    fail "v1"
    obtain ⟨j, rfl⟩ : ∃ j : Nat, k = (j : Int) := ⟨k.toNat, by omega⟩
    have hj : j < ns.length := by omega
    exact ⟨j, ns[j], rfl, atI_nat (List.getElem?_eq_getElem hj), eg_name (fin _)⟩
theorem ok_ltrs (F : L2.Fun K "_law_letters" "_law_letters" sLtrs f fd) (bi : Bi mg) (c1 : Cal P w K mg base 2 "_law_take" ["pile", "size"] (spP 1 preT postT)) :
    FnG P w K mg base 3 f fd ["pile"] (spP 0 (fun ds => ds = []) fun _ d => d = .str "a" ∨ d = .str "ab") := by
  refine fnP F scsLtrs (by simp) _ _ fun cdv A outer s H hg hr => ?_
  refine' ⟨_, ?h1, ?h2⟩
  case h1 =>
    have km : KMark K := ⟨⟩
    have nd : (["pile"] : List Str).Nodup := by decide +kernel
    have : (["pile"] : List Str)[0]? = some ("pile" : Str) := rfl
    fail "fTop"
  case h2 =>
    rintro p ds hl rfl
    show EvS K _ [some (.pile p)] _
    fail "w"
    refine ⟨by decide, ?_⟩
    fail "w"
    refine ⟨⟨4, rfl, by decide, by decide⟩, ?_⟩
    rintro d ⟨n, z, e, rfl, z0, z1⟩
    cases e
    have : z = 0 ∨ z = 1 ∨ z = 2 ∨ z = 3 := by omega
    rcases this with rfl | rfl | rfl | rfl
    · exact rd_ixL (d := .str "a") rfl ⟨rfl, .inl rfl⟩
    · exact rd_ixL (d := .str "ab") rfl ⟨rfl, .inr rfl⟩
    · exact rd_ixL (d := .str "ab") rfl ⟨rfl, .inr rfl⟩
    · exact rd_ixL (d := .str "ab") rfl ⟨rfl, .inr rfl⟩
theorem rd_neS1 {env : En} {P : PyData → Prop} {d : Str} (p : P (.bool false)) : RD K (rNeA K) env (.str d) (.str d) P := rd_neS (by rw [decide_eq_true rfl]; exact p)
theorem rd_eqS1 {env : En} {P : PyData → Prop} {d : Str} (p : P (.bool true)) : RD K (rEqA K) env (.str d) (.str d) P := rd_eqS (by rw [decide_eq_true rfl]; exact p)
end


abbrev sLof : Stmt := tp 4
theorem scsLof : FnScope ["thing", "letters"] ["thing", "letters"] (defScope sLof) := ⟨rfl, rfl, rfl, by decide +kernel, rfl, by decide +kernel, by decide +kernel⟩
abbrev sSt : Stmt := tp 8
theorem scsSt : FnScope ["thing", "many"] ["thing", "many"] (defScope sSt) := ⟨rfl, rfl, rfl, by decide +kernel, rfl, by decide +kernel, by decide +kernel⟩
abbrev sSts : Stmt := tp 9
theorem scsSts : FnScope ["thing", "many", "state", "k"] ["thing", "many"] (defScope sSts) := ⟨rfl, rfl, rfl, by decide +kernel, rfl, by decide +kernel, by decide +kernel⟩
abbrev sStep : Stmt := tp 10
theorem scsStep : FnScope ["thing", "letters", "many", "s", "a", "limits", "t", "limit"] ["thing", "letters", "many"] (defScope sStep) := ⟨rfl, rfl, rfl, by decide +kernel, rfl, by decide +kernel, by decide +kernel⟩
abbrev sLim : Stmt := tp 11
theorem scsLim : FnScope ["thing", "letters", "x", "least", "most"] ["thing", "letters"] (defScope sLim) := ⟨rfl, rfl, rfl, by decide +kernel, rfl, by decide +kernel, by decide +kernel⟩
abbrev sEdge : Stmt := tp 12
theorem scsEdge : FnScope ["thing"] ["thing"] (defScope sEdge) := ⟨rfl, rfl, rfl, by decide +kernel, rfl, by decide +kernel, by decide +kernel⟩
/-! ### what is asked of machines -/
def letOf (L : Str) : PyData → Bool
  | .str x => isLet (.str x) && FD.inS x L
  | _ => false
def lessI (m : Int) : PyData → Bool
  | .int i => decide (i < m)
  | _ => false
def isState (m : Int) (d : PyData) : Bool := isNum 0 d && lessI m d
def isB : PyData → Bool
  | .bool _ => true
  | _ => false
def isEdge : PyData → Bool
  | .tuple [a, b] => isNum 0 a && isB b
  | _ => false
abbrev preE : List PyData → Prop := fun ds => ∃ d, ds = [d] ∧ sm d = true
abbrev preLo : List PyData → Prop := fun ds => ∃ d, ∃ L : Str, ds = [d, .str L] ∧ sm d = true
def fLof : List PyData → PyData
  | [d, .str L] => .bool (letOf L d)
  | _ => .none
def fSt : List PyData → PyData
  | [d, .int m] => .bool (isState m d)
  | _ => .none
def fEdge : List PyData → PyData
  | [d] => .bool (isEdge d)
  | _ => .none
theorem isTup2 {d : PyData} (h : isTup 2 d = true) : ∃ a b, d = .tuple [a, b] := by
  cases d with
  | tuple ds =>
    have h' : ((ds.length : Int) == 2) = true := h
    have := eq_of_beq h'
    match ds, this with
    | [a, b], _ => exact ⟨a, b, rfl⟩
    | [], h => exact absurd h (by decide)
    | [_], h => exact absurd h (by simp)
    | _ :: _ :: _ :: _, h => exact absurd h (by simp; omega)
  | _ => cases h
theorem isEdge_not {d : PyData} (h : isTup 2 d = false) : isEdge d = false := by
  cases d with
  | tuple ds =>
    match ds with
    | [a, b] => cases h
    | [] => rfl
    | [_] => rfl
    | _ :: _ :: _ :: _ => rfl
  | _ => rfl
section
variable {P : Program} {w : World} {K : PySem.W.Frag} {mg : Str → Option Value} {base : Heap} {f : Addr} {fd : FuncData}
theorem ok_lof (F : L2.Fun K "is_letter_of" "is_letter_of" sLof f fd) (bi : Bi mg) (c1 : Cal P w K mg base 1 "is_letter" ["thing"] (spF 1 preD fLet)) :
    FnG P w K mg base 2 f fd ["thing", "letters"] (spF 2 preLo fLof) := by
  refine fnD F scsLof _ _ fun cdv A outer s H hg hr => ?_
  refine' ⟨_, ?h1, ?h2⟩
  case h1 =>
    have km : KMark K := ⟨⟩
    have nd : (["thing", "letters"] : List Str).Nodup := by decide +kernel
    have : (["thing", "letters"] : List Str)[0]? = some ("thing" : Str) := rfl
    have : (["thing", "letters"] : List Str)[1]? = some ("letters" : Str) := rfl
    fail "fTop"
  case h2 =>
    rintro ds hl ⟨d, L, rfl, hd⟩
    show EvS K _ [some (.dat d), some (.dat (.str L))] _
    fail "w"
    refine ⟨⟨d, rfl, hd⟩, isLet d, rfl, fun hA => ?_, fun hA => ?_⟩
    · cases d with
      | str x =>
        fail "w"
        show PyData.bool (FD.inS x L) = PyData.bool (isLet (.str x) && FD.inS x L)
        rw [hA]; rfl
      | _ => cases hA
    · show PyData.bool false = PyData.bool (letOf L d)
      cases d with
      | str x => show _ = PyData.bool (isLet (.str x) && FD.inS x L); rw [hA]; rfl
      | _ => rfl
theorem ok_st (F : L2.Fun K "is_state" "is_state" sSt f fd) (bi : Bi mg) (c1 : Cal P w K mg base 1 "is_number" ["thing", "least"] (spF 2 preN fNum)) :
    FnG P w K mg base 2 f fd ["thing", "many"] (spF 2 preN fSt) := by
  refine fnD F scsSt _ _ fun cdv A outer s H hg hr => ?_
  refine' ⟨_, ?h1, ?h2⟩
  case h1 =>
    have km : KMark K := ⟨⟩
    have nd : (["thing", "many"] : List Str).Nodup := by decide +kernel
    have : (["thing", "many"] : List Str)[0]? = some ("thing" : Str) := rfl
    have : (["thing", "many"] : List Str)[1]? = some ("many" : Str) := rfl
    fail "fTop"
  case h2 =>
    rintro ds hl ⟨d, m, rfl⟩
    show EvS K _ [some (.dat d), some (.dat (.int m))] _
    fail "w"
    refine ⟨⟨d, 0, rfl⟩, isNum 0 d, rfl, fun hA => ?_, fun hA => ?_⟩
    · cases d with
      | int i =>
        fail "w"
        show PyData.bool (decide (i < m)) = PyData.bool (isNum 0 (.int i) && decide (i < m))
        rw [hA]; rfl
      | _ => cases hA
    · show PyData.bool false = PyData.bool (isNum 0 d && lessI m d)
      rw [hA]; rfl
theorem ok_edge (F : L2.Fun K "is_edge" "is_edge" sEdge f fd) (bi : Bi mg) (c1 : Cal P w K mg base 1 "is_number" ["thing", "least"] (spF 2 preN fNum)) (c2 : Cal P w K mg base 1 "is_tuple" ["thing", "size"] (spF 2 preN fTup)) :
    FnG P w K mg base 2 f fd ["thing"] (spF 1 preD fEdge) := by
  refine fnD F scsEdge _ _ fun cdv A outer s H hg hr => ?_
  refine' ⟨_, ?h1, ?h2⟩
  case h1 =>
    have km : KMark K := ⟨⟩
    have nd : (["thing"] : List Str).Nodup := by decide +kernel
    have : (["thing"] : List Str)[0]? = some ("thing" : Str) := rfl
    fail "fTop"
  case h2 =>
    rintro ds hl ⟨d, rfl, hd⟩
    show EvS K _ [some (.dat d)] _
    fail "w"
    refine ⟨⟨_, _, rfl⟩, isTup 2 d, rfl, fun hT => ?_, fun hT => ?_⟩
    · obtain ⟨a, b, rfl⟩ := isTup2 hT
      fail "w"
      refine ⟨⟨_, _, rfl⟩, isNum 0 a, rfl, fun hA => ?_, fun hA => ?_⟩
      · fail "w"
        show PyData.bool _ = PyData.bool (isNum 0 a && isB b)
        rw [hA]
        cases b <;> rfl
      · show PyData.bool false = PyData.bool (isNum 0 a && isB b)
        rw [hA]; rfl
    · show PyData.bool false = PyData.bool (isEdge d)
      rw [isEdge_not hT]
end


/-- what may be handed to the defs here: small, without dicts, not deep -/
structure Okd (d : PyData) : Prop where
  sm : sm d = true
  fn : Fine 60 d
theorem Okd.eq {d : PyData} (h : Okd d) : eqOk d = true := fine_eqOk h.fn (by decide)
theorem Okd.item {ds : List PyData} (h : Okd (.tuple ds)) {d : PyData} (hd : d ∈ ds) : Okd d := ⟨smA_mem (sm_tup h.sm).2 hd, fine_items h.fn d hd⟩
theorem tup_of {n : Nat} {d : PyData} (h : isTup n d = true) : ∃ ds, d = .tuple ds ∧ ds.length = n := by
  cases d with
  | tuple ds =>
    have h' : ((ds.length : Int) == (n : Int)) = true := h
    have := eq_of_beq h'
    exact ⟨ds, rfl, by omega⟩
  | _ => cases h
theorem len3 {ds : List PyData} (h : ds.length = 3) : ∃ a b c, ds = [a, b, c] := by
  match ds, h with
  | [a, b, c], _ => exact ⟨a, b, c, rfl⟩
theorem len4 {ds : List PyData} (h : ds.length = 4) : ∃ a b c d, ds = [a, b, c, d] := by
  match ds, h with
  | [a, b, c, d], _ => exact ⟨a, b, c, d, rfl⟩
theorem len5 {ds : List PyData} (h : ds.length = 5) : ∃ a b c d e, ds = [a, b, c, d, e] := by
  match ds, h with
  | [a, b, c, d, e], _ => exact ⟨a, b, c, d, e, rfl⟩
/-- the empty string -/
def isE (d : PyData) : Bool := PyData.eqv d (.str "")
def isLim (L : Str) : PyData → Bool
  | .tuple [x, l, m] => (letOf L x || isE x) && (if FD.isNone l then FD.isNone m && !isE x else isEdge l && (FD.isNone m || isEdge m))
  | _ => false
theorem isLim_not {L : Str} {d : PyData} (h : isTup 3 d = false) : isLim L d = false := by
  cases d with
  | tuple ds =>
    match ds with
    | [a, b, c] => cases h
    | [] => rfl
    | [_] => rfl
    | [_, _] => rfl
    | _ :: _ :: _ :: _ :: _ => rfl
  | _ => rfl
abbrev preLi : List PyData → Prop := fun ds => ∃ d, ∃ L : Str, ds = [d, .str L] ∧ Okd d
def fLim : List PyData → PyData
  | [d, .str L] => .bool (isLim L d)
  | _ => .none
def allLim (L : Str) : PyData → Bool
  | .tuple es => es.all (isLim L)
  | _ => false
def isStep (L : Str) (m : Int) : PyData → Bool
  | .tuple [s, a, ls, t] => isState m s && (letOf L a && (isState m t && allLim L ls))
  | _ => false
theorem isStep_not {L : Str} {m : Int} {d : PyData} (h : isTup 4 d = false) : isStep L m d = false := by
  cases d with
  | tuple ds =>
    match ds with
    | [a, b, c, d] => cases h
    | [] => rfl
    | [_] => rfl
    | [_, _] => rfl
    | [_, _, _] => rfl
    | _ :: _ :: _ :: _ :: _ :: _ => rfl
  | _ => rfl
abbrev preSt : List PyData → Prop := fun ds => ∃ d, ∃ L : Str, ∃ m : Int, ds = [d, .str L, .int m] ∧ Okd d
def fStep : List PyData → PyData
  | [d, .str L, .int m] => .bool (isStep L m d)
  | _ => .none
section
variable {P : Program} {w : World} {K : PySem.W.Frag} {mg : Str → Option Value} {base : Heap} {f : Addr} {fd : FuncData}
theorem ok_lim (F : L2.Fun K "is_limit" "is_limit" sLim f fd) (bi : Bi mg) (c1 : Cal P w K mg base 1 "is_tuple" ["thing", "size"] (spF 2 preN fTup)) (c2 : Cal P w K mg base 2 "is_letter_of" ["thing", "letters"] (spF 2 preLo fLof))
    (c3 : Cal P w K mg base 2 "is_edge" ["thing"] (spF 1 preD fEdge)) : FnG P w K mg base 3 f fd ["thing", "letters"] (spF 2 preLi fLim) := by
  refine fnD F scsLim _ _ fun cdv A outer s H hg hr => ?_
  refine' ⟨_, ?h1, ?h2⟩
  case h1 =>
    have km : KMark K := ⟨⟩
    have nd : (["thing", "letters", "x", "least", "most"] : List Str).Nodup := by decide +kernel
    have : (["thing", "letters", "x", "least", "most"] : List Str)[0]? = some ("thing" : Str) := rfl
    have : (["thing", "letters", "x", "least", "most"] : List Str)[1]? = some ("letters" : Str) := rfl
    have : (["thing", "letters", "x", "least", "most"] : List Str)[2]? = some ("x" : Str) := rfl
    have : (["thing", "letters", "x", "least", "most"] : List Str)[3]? = some ("least" : Str) := rfl
    have : (["thing", "letters", "x", "least", "most"] : List Str)[4]? = some ("most" : Str) := rfl
    fail "fTop"
  case h2 =>
    rintro ds hl ⟨d, L, rfl, hd⟩
    show EvS K _ [some (.dat d), some (.dat (.str L)), none, none, none] _
    fail "w"
    refine ⟨⟨_, _, rfl⟩, isTup 3 d, rfl, fun hT => ?_, fun hT => ?_⟩
    · have hT' : isTup 3 d = false := by simpa using hT
      fail "w"
      show PyData.bool false = PyData.bool (isLim L d)
      rw [isLim_not hT']
    · have hT' : isTup (3 : Nat) d = true := by simpa using hT
      obtain ⟨es, rfl, h3⟩ := tup_of hT'
      obtain ⟨x, l, m, rfl⟩ := len3 h3
      have ox : Okd x := hd.item (by simp)
      have ol : Okd l := hd.item (by simp)
      have om : Okd m := hd.item (by simp)
      have ex : eqOk x = true := ox.eq
      have bad : (letOf L x || isE x) = false → PyData.bool false = fLim [.tuple [x, l, m], .str L] := fun h => by
        show PyData.bool false = PyData.bool ((letOf L x || isE x) && _)
        rw [h]; rfl
      have good : (letOf L x || isE x) = true → ∀ b, (if FD.isNone l then FD.isNone m && !isE x else isEdge l && (FD.isNone m || isEdge m)) = b → PyData.bool b = fLim [.tuple [x, l, m], .str L] := fun h b hb => by
        show PyData.bool b = PyData.bool ((letOf L x || isE x) && _)
        rw [h, hb]; rfl
      have rest : (letOf L x || isE x) = true → EvS K (tSeq (tIfS (tTest (tOp rIsAny (tVar 3) (tC V.non))) (tRet (tAndV (tOp rIsAny (tVar 4) (tC V.non)) (tOp (rNeA K) (tVar 2) (tC (V.str (Str.ofString "")))))) tNext)
          (tRet (tAndV (tCB (callOf (spF 1 preD fEdge)) (tCons (tVar 3) tNil)) (tOrV (tOp rIsAny (tVar 4) (tC V.non)) (tCB (callOf (spF 1 preD fEdge)) (tCons (tVar 4) tNil))))))
          [some (.dat (.tuple [x, l, m])), some (.dat (.str L)), some (.dat x), some (.dat l), some (.dat m)] { nx := fun _ => PyData.none = fLim [.tuple [x, l, m], .str L], rt := fun _ d => d = fLim [.tuple [x, l, m], .str L] } := fun h => by
        refine es_seq (es_if (ev_test (ev_op (ev_var rfl (ev_non (rd_isN ⟨_, rfl, fun hl => ?_, fun hl => es_next ?_⟩))))))
        · refine es_ret (ev_and (ev_op (ev_var rfl (ev_non (rd_isN ⟨_, rfl, fun hm => ?_, fun hm => ?_⟩)))))
          · refine ev_op (ev_var rfl (ev_str (rd_neA ex (by decide +kernel) ?_)))
            exact good h _ (by rw [if_pos hl, hm]; rfl)
          · exact good h _ (by rw [if_pos hl, hm]; rfl)
        · have hl' : ¬ FD.isNone l = true := by rw [hl]; decide
          refine es_ret (ev_and (ev_callF (ea_cons (ev_var rfl (ea_nil ⟨rfl, ⟨l, rfl, ol.sm⟩, isEdge l, rfl, fun hE => ?_, fun hE => ?_⟩)))))
          · refine ev_or (ev_op (ev_var rfl (ev_non (rd_isN ⟨_, rfl, fun hm => ?_, fun hm => ?_⟩))))
            · exact ev_callF (ea_cons (ev_var rfl (ea_nil ⟨rfl, ⟨m, rfl, om.sm⟩, good h (isEdge m) (by rw [if_neg hl', hE, hm]; rfl)⟩)))
            · exact good h _ (by rw [if_neg hl', hE, hm]; rfl)
          · exact good h _ (by rw [if_neg hl', hE]; rfl)
      fail "w"
      refine ⟨⟨x, L, rfl, ox.sm⟩, letOf L x, rfl, fun hA => ?_, fun hA => ⟨(fun h => Bool.noConfusion h), fun _ => es_next (rest (by rw [hA]; rfl))⟩⟩
      refine ev_test (ev_op (ev_var rfl (ev_str (rd_eqA ex (by decide +kernel) ⟨_, rfl, fun hc => ?_, fun hc => es_next (rest ?_)⟩))))
      · exact es_ret (ev_bl (bad (by rw [hA]; show (false || isE x) = false; rw [show isE x = false by unfold isE; simpa using hc]; rfl)))
      · rw [hA]; show (false || isE x) = true; rw [show isE x = true by unfold isE; simpa using hc]; rfl
theorem ok_step (F : L2.Fun K "is_step" "is_step" sStep f fd) (bi : Bi mg) (c1 : Cal P w K mg base 1 "is_tuple" ["thing", "size"] (spF 2 preN fTup)) (c2 : Cal P w K mg base 2 "is_letter_of" ["thing", "letters"] (spF 2 preLo fLof))
    (c3 : Cal P w K mg base 2 "is_state" ["thing", "many"] (spF 2 preN fSt)) (c4 : Cal P w K mg base 3 "is_limit" ["thing", "letters"] (spF 2 preLi fLim)) : FnG P w K mg base 4 f fd ["thing", "letters", "many"] (spF 3 preSt fStep) := by
  refine fnD F scsStep _ _ fun cdv A outer s H hg hr => ?_
  refine' ⟨_, ?h1, ?h2⟩
  case h1 =>
    have km : KMark K := ⟨⟩
    have nd : (["thing", "letters", "many", "s", "a", "limits", "t", "limit"] : List Str).Nodup := by decide +kernel
    have : (["thing", "letters", "many", "s", "a", "limits", "t", "limit"] : List Str)[0]? = some ("thing" : Str) := rfl
    have : (["thing", "letters", "many", "s", "a", "limits", "t", "limit"] : List Str)[1]? = some ("letters" : Str) := rfl
    have : (["thing", "letters", "many", "s", "a", "limits", "t", "limit"] : List Str)[2]? = some ("many" : Str) := rfl
    have : (["thing", "letters", "many", "s", "a", "limits", "t", "limit"] : List Str)[3]? = some ("s" : Str) := rfl
    have : (["thing", "letters", "many", "s", "a", "limits", "t", "limit"] : List Str)[4]? = some ("a" : Str) := rfl
    have : (["thing", "letters", "many", "s", "a", "limits", "t", "limit"] : List Str)[5]? = some ("limits" : Str) := rfl
    have : (["thing", "letters", "many", "s", "a", "limits", "t", "limit"] : List Str)[6]? = some ("t" : Str) := rfl
    have : (["thing", "letters", "many", "s", "a", "limits", "t", "limit"] : List Str)[7]? = some ("limit" : Str) := rfl
    fail "fTop"
  case h2 =>
    rintro ds hl ⟨d, L, m, rfl, hd⟩
    show EvS K _ [some (.dat d), some (.dat (.str L)), some (.dat (.int m)), none, none, none, none, none] _
    fail "w"
    refine ⟨⟨_, _, rfl⟩, isTup 4 d, rfl, fun hT => ?_, fun hT => ?_⟩
    · have hT' : isTup 4 d = false := by simpa using hT
      fail "w"
      show PyData.bool false = PyData.bool (isStep L m d)
      rw [isStep_not hT']
    · have hT' : isTup (4 : Nat) d = true := by simpa using hT
      obtain ⟨es, rfl, h4⟩ := tup_of hT'
      obtain ⟨s0, a0, ls, t0, rfl⟩ := len4 h4
      have oa : Okd a0 := hd.item (by simp)
      have ol : Okd ls := hd.item (by simp)
      have unf : fStep [.tuple [s0, a0, ls, t0], .str L, .int m] = .bool (isState m s0 && (letOf L a0 && (isState m t0 && allLim L ls))) := rfl
      have bad : (isState m s0 && (letOf L a0 && isState m t0)) = false → PyData.bool false = fStep [.tuple [s0, a0, ls, t0], .str L, .int m] := fun h => by
        rw [unf]
        congr 1
        revert h
        cases isState m s0 <;> cases letOf L a0 <;> cases isState m t0 <;> simp
      fail "w"
      refine ⟨⟨s0, m, rfl⟩, isState m s0, rfl, fun h1 => ?_, fun h1 => ?_⟩
      · fail "w"
        refine ⟨⟨a0, L, rfl, oa.sm⟩, letOf L a0, rfl, fun h2 => ?_, fun h2 => ?_⟩
        · fail "w"
          refine ⟨⟨t0, m, rfl⟩, isState m t0, rfl, ?_⟩
          refine ⟨fun h3 => ?_, fun h3 => ?_⟩
          · have h3 : isState m t0 = false := by simpa using h3
            exact es_ret (ev_bl (bad (by rw [h1, h2, h3]; rfl)))
          · have h3 : isState m t0 = true := by simpa using h3
            refine es_next ?_
            rw [unf, h1, h2, h3]
            cases ls with
            | tuple es =>
              obtain ⟨sl, _⟩ := sm_tup ol.sm
              fail "w"
              refine ev_map (fun d => .bool (isLim L d)) ?_
              refine ei_tup ?_
              fail "w"
              refine ⟨Nat.le_trans sl (by decide), fun d hd => ?_, ?_⟩
              · fail "w"
                exact ⟨⟨_, _, rfl, ol.item hd⟩, rfl, rfl⟩
              fail "w"
              rfl
            | _ =>
              fail "w"
              rfl
        · have h2' : (isState m s0 && (letOf L a0 && isState m t0)) = false := by rw [h1, h2]; rfl
          fail "w"
          exact bad h2'
      · have h1' : (isState m s0 && (letOf L a0 && isState m t0)) = false := by rw [h1]; rfl
        fail "w"
        exact bad h1'
end


abbrev sMach : Stmt := tp 7
theorem scsMach : FnScope ["thing", "letters", "many", "starts", "ends", "steps", "step"] ["thing"] (defScope sMach) := ⟨rfl, rfl, rfl, by decide +kernel, rfl, by decide +kernel, by decide +kernel⟩
def valI : PyData → Int
  | .int i => i
  | _ => 0
def lt2 (ts : List Int) : PyData → Bool
  | .int k => decide (ts.getD k.toNat 0 < ts.getD (k.toNat + 1) 0)
  | _ => false
/-- ascending, each once -/
def rising (ts : List Int) : Bool := (List.range (ts.length - 1)).all fun i => decide (ts.getD i 0 < ts.getD (i + 1) 0)
theorem rising_lt2 (ts : List Int) : (nums 0 ((ts.length : Int) - 1).toNat).all (lt2 ts) = rising ts := by
  have e : ((ts.length : Int) - 1).toNat = ts.length - 1 := by omega
  unfold nums rising
  rw [e, List.all_map]
  congr 1
  funext i
  show decide _ = decide _
  have e2 : (0 + (i : Int)).toNat = i := by omega
  rw [e2]
def isSts (m : Int) : PyData → Bool
  | .tuple es => es.all (isState m) && rising (es.map valI)
  | _ => false
theorem state_int {m : Int} {d : PyData} (h : isState m d = true) : d = .int (valI d) := by
  cases d with
  | int i => rfl
  | _ => cases h
theorem state_at {m : Int} {es : List PyData} (h : es.all (isState m) = true) {i : Nat} (hi : i < es.length) : es[i]? = some (.int ((es.map valI).getD i 0)) := by
  have e := state_int (List.all_eq_true.mp h es[i] (List.getElem_mem hi))
  rw [List.getD_eq_getElem?_getD, List.getElem?_map, List.getElem?_eq_getElem hi]
  exact congrArg some e
abbrev preSs : List PyData → Prop := fun ds => ∃ d, ∃ m : Int, ds = [d, .int m] ∧ sm d = true
def fSts : List PyData → PyData
  | [d, .int m] => .bool (isSts m d)
  | _ => .none
/-- a text of letters, ascending, each once: what sorted(set(..)) leaves as it is -/
def isLets : PyData → Bool
  | .str x => !decide (x = "") && ((FD.signs x).all isLet && rising (x.cps.toList.map fun c : Nat => (c : Int)))
  | _ => false
def fLets : List PyData → PyData
  | [d] => .bool (isLets d)
  | _ => .none
def isT : PyData → Bool
  | .tuple _ => true
  | _ => false
def allSteps (m : Int) : PyData → PyData → Bool
  | .str L, .tuple es => es.all (isStep L m)
  | _, _ => false
def isMach : PyData → Bool
  | .tuple [l, m, st, en, sp] => isLets l && (isNum 1 m && (isT sp && (isSts (valI m) st && (isSts (valI m) en && allSteps (valI m) l sp))))
  | _ => false
abbrev preMa : List PyData → Prop := fun ds => ∃ d, ds = [d] ∧ Okd d
def fMach : List PyData → PyData
  | [d] => .bool (isMach d)
  | _ => .none
theorem isMach_not {d : PyData} (h : isTup 5 d = false) : isMach d = false := by
  cases d with
  | tuple ds =>
    match ds with
    | [a, b, c, d, e] => cases h
    | [] => rfl
    | [_] => rfl
    | [_, _] => rfl
    | [_, _, _] => rfl
    | [_, _, _, _] => rfl
    | _ :: _ :: _ :: _ :: _ :: _ :: _ => rfl
  | _ => rfl
section
variable {P : Program} {w : World} {K : PySem.W.Frag} {mg : Str → Option Value} {base : Heap} {f : Addr} {fd : FuncData}
theorem ok_sts (F : L2.Fun K "are_states" "are_states" sSts f fd) (bi : Bi mg) (c1 : Cal P w K mg base 2 "is_state" ["thing", "many"] (spF 2 preN fSt)) :
    FnG P w K mg base 3 f fd ["thing", "many"] (spF 2 preSs fSts) := by
  refine fnD F scsSts _ _ fun cdv A outer s H hg hr => ?_
  refine' ⟨_, ?h1, ?h2⟩
  case h1 =>
    have km : KMark K := ⟨⟩
    have nd : (["thing", "many", "state", "k"] : List Str).Nodup := by decide +kernel
    have : (["thing", "many", "state", "k"] : List Str)[0]? = some ("thing" : Str) := rfl
    have : (["thing", "many", "state", "k"] : List Str)[1]? = some ("many" : Str) := rfl
    have : (["thing", "many", "state", "k"] : List Str)[2]? = some ("state" : Str) := rfl
    have : (["thing", "many", "state", "k"] : List Str)[3]? = some ("k" : Str) := rfl
    fail "fTop"
  case h2 =>
    rintro ds hl ⟨d, m, rfl, hd⟩
    show EvS K _ [some (.dat d), some (.dat (.int m)), none, none] _
    cases d with
    | tuple es =>
      obtain ⟨sl, _⟩ := sm_tup hd
      fail "w"
      refine ev_map (fun d => .bool (isState m d)) ?_
      refine ei_tup ?_
      fail "w"
      refine ⟨Nat.le_trans sl (by decide), fun d hd => ?_, ?_⟩
      · fail "w"
        exact ⟨⟨_, _, rfl⟩, rfl, rfl⟩
      fail "w"
      · rename_i hc
        have hc' : es.all (isState m) = false := by simpa using hc
        show PyData.bool false = PyData.bool (es.all (isState m) && rising (es.map valI))
        rw [hc']; rfl
      · rename_i hc
        have hc' : es.all (isState m) = true := by simpa using hc
        refine ev_map (fun d => .bool (lt2 (es.map valI) d)) ?_
        refine ei_rng1 ?_
        fail "w"
        refine ⟨by omega, ?_, ?_, ?_⟩
        · rw [nums_length]; omega
        · intro d hd
          obtain ⟨i, hi⟩ := List.getElem?_of_mem hd
          obtain ⟨hi, rfl⟩ := nums_get hi
          fail "w"
          refine rd_ixT (d := .int ((es.map valI).getD i 0)) ?_ ?_
          · rw [show (0 : Int) + (i : Int) = ((i : Nat) : Int) by omega]; exact at_nat (state_at hc' (by omega))
          fail "w"
          refine rd_ixT (d := .int ((es.map valI).getD (i + 1) 0)) ?_ ?_
          · rw [show (0 : Int) + (i : Int) + 1 = ((i + 1 : Nat) : Int) by omega]; exact at_nat (state_at hc' (by omega))
          fail "w"
          show PyData.bool _ = PyData.bool (decide _)
          rw [show ((0 : Int) + (i : Int)).toNat = i by omega]
        · fail "w"
          show PyData.bool _ = PyData.bool (es.all (isState m) && rising (es.map valI))
          have e := rising_lt2 (es.map valI)
          rw [List.length_map] at e
          rw [e, hc']; rfl
    | _ =>
      fail "w"
      rfl
theorem ok_mach (F : L2.Fun K "is_machine" "is_machine" sMach f fd) (bi : Bi mg) (c1 : Cal P w K mg base 1 "is_tuple" ["thing", "size"] (spF 2 preN fTup)) (c2 : Cal P w K mg base 2 "is_letters" ["thing"] (spF 1 preD fLets))
    (c3 : Cal P w K mg base 1 "is_number" ["thing", "least"] (spF 2 preN fNum)) (c4 : Cal P w K mg base 3 "are_states" ["thing", "many"] (spF 2 preSs fSts)) (c5 : Cal P w K mg base 4 "is_step" ["thing", "letters", "many"] (spF 3 preSt fStep)) :
    FnG P w K mg base 5 f fd ["thing"] (spF 1 preMa fMach) := by
  refine fnD F scsMach _ _ fun cdv A outer s H hg hr => ?_
  refine' ⟨_, ?h1, ?h2⟩
  case h1 =>
    have km : KMark K := ⟨⟩
    have nd : (["thing", "letters", "many", "starts", "ends", "steps", "step"] : List Str).Nodup := by decide +kernel
    have : (["thing", "letters", "many", "starts", "ends", "steps", "step"] : List Str)[0]? = some ("thing" : Str) := rfl
    have : (["thing", "letters", "many", "starts", "ends", "steps", "step"] : List Str)[1]? = some ("letters" : Str) := rfl
    have : (["thing", "letters", "many", "starts", "ends", "steps", "step"] : List Str)[2]? = some ("many" : Str) := rfl
    have : (["thing", "letters", "many", "starts", "ends", "steps", "step"] : List Str)[3]? = some ("starts" : Str) := rfl
    have : (["thing", "letters", "many", "starts", "ends", "steps", "step"] : List Str)[4]? = some ("ends" : Str) := rfl
    have : (["thing", "letters", "many", "starts", "ends", "steps", "step"] : List Str)[5]? = some ("steps" : Str) := rfl
    have : (["thing", "letters", "many", "starts", "ends", "steps", "step"] : List Str)[6]? = some ("step" : Str) := rfl
    fail "fTop"
  case h2 =>
    rintro ds hl ⟨d, rfl, hd⟩
    show EvS K _ [some (.dat d), none, none, none, none, none, none] _
    fail "w"
    refine ⟨⟨_, _, rfl⟩, isTup 5 d, rfl, fun hT => ?_, fun hT => ?_⟩
    · have hT' : isTup 5 d = false := by simpa using hT
      fail "w"
      show PyData.bool false = PyData.bool (isMach d)
      rw [isMach_not hT']
    · have hT' : isTup (5 : Nat) d = true := by simpa using hT
      obtain ⟨es, rfl, h5⟩ := tup_of hT'
      obtain ⟨l, m, st, en, sp, rfl⟩ := len5 h5
      have ol : Okd l := hd.item (by simp)
      have ost : Okd st := hd.item (by simp)
      have oen : Okd en := hd.item (by simp)
      have osp : Okd sp := hd.item (by simp)
      have unf : fMach [.tuple [l, m, st, en, sp]] = .bool (isLets l && (isNum 1 m && (isT sp && (isSts (valI m) st && (isSts (valI m) en && allSteps (valI m) l sp))))) := rfl
      have bad : (isLets l && (isNum 1 m && (isT sp && (isSts (valI m) st && isSts (valI m) en)))) = false → PyData.bool false = fMach [.tuple [l, m, st, en, sp]] := fun h => by
        rw [unf]
        congr 1
        revert h
        cases isLets l <;> cases isNum 1 m <;> cases isT sp <;> cases isSts (valI m) st <;> cases isSts (valI m) en <;> simp
      fail "w"
      refine ⟨⟨l, rfl, ol.sm⟩, isLets l, rfl, fun h1 => ?_, fun h1 => ?_⟩
      · obtain ⟨L, hL⟩ : ∃ L, l = .str L := by
          cases l with
          | str L => exact ⟨L, rfl⟩
          | _ => cases h1
        fail "w"
        refine ⟨⟨m, 1, rfl⟩, isNum 1 m, rfl, fun h2 => ?_, fun h2 => ?_⟩
        · obtain ⟨i, hi⟩ : ∃ i, m = .int i := by
            cases m with
            | int i => exact ⟨i, rfl⟩
            | _ => cases h2
          subst hL hi
          refine ev_tB (ev_isi (by decide) (ev_var rfl ⟨_, rfl, fun h3 => ?_, fun h3 => ?_⟩))
          · have h3' : isT sp = false := by
              cases sp with
              | tuple _ => cases h3
              | _ => rfl
            exact es_ret (ev_bl (bad (by rw [h1, h2, h3']; rfl)))
          · obtain ⟨es, hes⟩ : ∃ es, sp = .tuple es := by
              cases sp with
              | tuple es => exact ⟨es, rfl⟩
              | _ => cases h3
            subst hes
            obtain ⟨sl, _⟩ := sm_tup osp.sm
            refine es_next ?_
            fail "w"
            refine ⟨⟨st, i, rfl, ost.sm⟩, isSts i st, rfl, fun h4 => ?_, fun h4 => ?_⟩
            · fail "w"
              refine ⟨⟨en, i, rfl, oen.sm⟩, isSts i en, rfl, fun h5 => ?_, fun h5 => ?_⟩
              · have h5' : isSts i en = false := by simpa using h5
                exact es_ret (ev_bl (bad (by rw [h1, h2]; show (true && (true && (true && (isSts i st && isSts i en)))) = false; rw [h4, h5']; rfl)))
              · have h5' : isSts i en = true := by simpa using h5
                refine es_next ?_
                rw [unf, h1, h2]
                show EvS K _ _ { nx := _, rt := fun _ d => d = PyData.bool (true && (true && (true && (isSts i st && (isSts i en && es.all (isStep L i)))))) }
                rw [h4, h5']
                fail "w"
                refine ev_map (fun d => .bool (isStep L i d)) ?_
                refine ei_tup ?_
                fail "w"
                refine ⟨Nat.le_trans sl (by decide), fun d hd => ?_, ?_⟩
                · fail "w"
                  exact ⟨⟨_, _, _, rfl, osp.item hd⟩, rfl, rfl⟩
                fail "w"
                rfl
            · have h4' : (isLets (.str L) && (isNum 1 (.int i) && (isT (.tuple es) && (isSts i st && isSts i en)))) = false := by rw [h1, h2, h4]; rfl
              fail "w"
              exact bad h4'
        · have h2' : (isLets l && (isNum 1 m && (isT sp && (isSts (valI m) st && isSts (valI m) en)))) = false := by rw [h1, h2]; rfl
          fail "w"
          exact bad h2'
      · have h1' : (isLets l && (isNum 1 m && (isT sp && (isSts (valI m) st && isSts (valI m) en)))) = false := by rw [h1]; rfl
        fail "w"
        exact bad h1'
end


abbrev sRise : Stmt := tp 25
theorem scsRise : FnScope ["things", "k"] ["things"] (defScope sRise) := ⟨rfl, rfl, rfl, by decide +kernel, rfl, by decide +kernel, by decide +kernel⟩
abbrev sIsEnd : Stmt := tp 28
theorem scsIsEnd : FnScope ["thing"] ["thing"] (defScope sIsEnd) := ⟨rfl, rfl, rfl, by decide +kernel, rfl, by decide +kernel, by decide +kernel⟩
abbrev sIsLim : Stmt := tp 29
theorem scsIsLim : FnScope ["letters", "thing", "x", "least", "most"] ["letters", "thing"] (defScope sIsLim) := ⟨rfl, rfl, rfl, by decide +kernel, rfl, by decide +kernel, by decide +kernel⟩
abbrev sAre : Stmt := tp 30
theorem scsAre : FnScope ["many", "thing", "s"] ["many", "thing"] (defScope sAre) := ⟨rfl, rfl, rfl, by decide +kernel, rfl, by decide +kernel, by decide +kernel⟩
def ge2 (ts : List Int) : PyData → Bool
  | .int k => decide (ts.getD k.toNat 0 ≤ ts.getD (k - 1).toNat 0)
  | _ => false
theorem rising_ge2 (ts : List Int) : (nums 1 ((ts.length : Int) - 1).toNat).all (fun d => !ge2 ts d) = rising ts := by
  have e : ((ts.length : Int) - 1).toNat = ts.length - 1 := by omega
  unfold nums rising
  rw [e, List.all_map]
  congr 1
  funext i
  show (!decide (ts.getD (1 + (i : Int)).toNat 0 ≤ ts.getD (1 + (i : Int) - 1).toNat 0)) = decide _
  have e1 : (1 + (i : Int)).toNat = i + 1 := by omega
  have e2 : (1 + (i : Int) - 1).toNat = i := by omega
  rw [e1, e2]
  by_cases q : ts.getD i 0 < ts.getD (i + 1) 0
  · rw [decide_eq_true q, decide_eq_false (by omega)]; rfl
  · rw [decide_eq_false q, decide_eq_true (by omega)]; rfl
theorem eqv_nil (l : List PyData) : PyData.eqv (.list l) (.list []) = l.isEmpty := by cases l <;> rfl
theorem filter_nil (p : PyData → Bool) (l : List PyData) : (l.filter p).isEmpty = l.all (fun d => !p d) := by
  induction l with
  | nil => rfl
  | cons d l ih =>
    rw [List.filter_cons, List.all_cons]
    cases h : p d
    · rw [if_neg Bool.false_ne_true, ih]; rfl
    · rw [if_pos rfl]; rfl
/-- a list of small flat things may be compared -/
def flatD : PyData → Bool
  | .none => true
  | .bool _ => true
  | .int _ => true
  | _ => false
theorem flat_all : ∀ {l : List PyData}, l.all flatD = true → noDictAll l = true ∧ PyData.canLayAll0 l = true ∧ PyData.depthAll l = 0
  | [], _ => ⟨rfl, rfl, rfl⟩
  | d :: l, h => by
    rw [List.all_cons, Bool.and_eq_true] at h
    obtain ⟨a, b, c⟩ := flat_all h.2
    have hd : noDict d = true ∧ PyData.canLay0 d = true ∧ PyData.depth d = 0 := by
      cases d with
      | none => exact ⟨rfl, rfl, rfl⟩
      | bool _ => exact ⟨rfl, rfl, rfl⟩
      | int _ => exact ⟨rfl, rfl, rfl⟩
      | _ => exact absurd h.1 (by simp [flatD])
    refine ⟨?_, ?_, ?_⟩
    · show (noDict d && noDictAll l) = true
      rw [hd.1, a]; rfl
    · show (PyData.canLay0 d && PyData.canLayAll0 l) = true
      rw [hd.2.1, b]; rfl
    · show max (PyData.depth d) (PyData.depthAll l) = 0
      rw [hd.2.2, c]; rfl
theorem eqOk_flat {l : List PyData} (h : l.all flatD = true) : eqOk (.list l) = true := by
  obtain ⟨a, b, c⟩ := flat_all h
  show (noDictAll l && (PyData.canLayAll0 l && decide (PyData.depthAll l + 1 ≤ 64))) = true
  rw [a, b, c]; rfl
theorem nums_flat (p : PyData → Bool) (lo : Int) (n : Nat) : ((nums lo n).filter p).all flatD = true := List.all_eq_true.mpr fun d hd => by
  obtain ⟨i, hi⟩ := List.getElem?_of_mem (List.mem_filter.mp hd).1
  obtain ⟨_, rfl⟩ := nums_get hi
  rfl
theorem len2 {ds : List PyData} (h : ds.length = 2) : ∃ a b, ds = [a, b] := by
  match ds, h with
  | [a, b], _ => exact ⟨a, b, rfl⟩
def cpsI (x : Str) : List Int := x.cps.toList.map fun c : Nat => (c : Int)
abbrev preRi : List PyData → Prop := fun ds => (∃ es, ds = [.tuple es] ∧ es.length ≤ 1000 ∧ ∀ i, i < es.length → es[i]? = some (.int ((es.map valI).getD i 0))) ∨ ∃ x : Str, ds = [.str x] ∧ x.length ≤ 1000
def fRise : List PyData → PyData
  | [.tuple es] => .bool (rising (es.map valI))
  | [.str x] => .bool (rising (cpsI x))
  | _ => .none
theorem cps_at (x : Str) {i : Nat} (h : i < x.length) : ∃ c : Nat, x.cps.toList[i]? = some c ∧ (cpsI x).getD i 0 = (c : Int) := by
  have h' : i < x.cps.toList.length := by rw [Array.length_toList]; exact h
  refine ⟨x.cps.toList[i], List.getElem?_eq_getElem h', ?_⟩
  unfold cpsI
  rw [List.getD_eq_getElem?_getD, List.getElem?_map, List.getElem?_eq_getElem h']
  rfl
theorem at_natA {α : Type} {ds : List α} {m : Nat} {d : α} (h : ds[m]? = some d) : L2.atI ds (m : Int) = some d := by
  have lt : m < ds.length := (List.getElem?_eq_some_iff.mp h).1
  have e : L2.ixN ds.length (m : Int) = some m := by
    unfold L2.ixN
    rw [if_pos (by omega), if_pos (by omega)]
    rfl
  unfold L2.atI
  rw [e]
  exact h
section
variable {P : Program} {w : World} {K : PySem.W.Frag} {mg : Str → Option Value} {base : Heap} {f : Addr} {fd : FuncData}
theorem ok_rise (F : L2.Fun K "_law_rising" "_law_rising" sRise f fd) (bi : Bi mg) : FnG P w K mg base 1 f fd ["things"] (spF 1 preRi fRise) := by
  refine fnD F scsRise _ _ fun cdv A outer s H hg hr => ?_
  refine' ⟨_, ?h1, ?h2⟩
  case h1 =>
    have km : KMark K := ⟨⟩
    have nd : (["things", "k"] : List Str).Nodup := by decide +kernel
    have : (["things", "k"] : List Str)[0]? = some ("things" : Str) := rfl
    have : (["things", "k"] : List Str)[1]? = some ("k" : Str) := rfl
    fail "fTop"
  case h2 =>
    rintro ds hl hp
    rcases hp with ⟨es, rfl, sl, hat⟩ | ⟨x, rfl, sl⟩
    · show EvS K _ [some (.dat (.tuple es)), none] _
      fail "v1"
      fail "v1"
      refine ev_filter (ge2 (es.map valI)) (ei_rng2 ?_)
      fail "w"
      refine ⟨_, _, rfl, by omega, ?_, (by show 1 < 2; decide), ?_, ?_⟩
      · rw [nums_length]; omega
      · intro d hd
        obtain ⟨i, hi⟩ := List.getElem?_of_mem hd
        obtain ⟨hi, rfl⟩ := nums_get hi
        fail "w"
        refine rd_ixT (d := .int ((es.map valI).getD i 0)) ?_ ?_
        · rw [show (1 : Int) + (i : Int) - 1 = ((i : Nat) : Int) by omega]; exact at_nat (hat i (by omega))
        fail "w"
        refine rd_ixT (d := .int ((es.map valI).getD (i + 1) 0)) ?_ ?_
        · rw [show (1 : Int) + (i : Int) = ((i + 1 : Nat) : Int) by omega]; exact at_nat (hat (i + 1) (by omega))
        fail "w"
        show decide _ = decide _
        rw [show ((1 : Int) + (i : Int)).toNat = i + 1 by omega, show ((1 : Int) + (i : Int) - 1).toNat = i by omega]
      · fail "v1"
        fail "v1"
        refine ⟨by decide, ?_⟩
        refine rd_eqA (eqOk_flat (nums_flat _ _ _)) (by decide +kernel) ?_
        show PyData.bool _ = PyData.bool (rising (es.map valI))
        have e := rising_ge2 (es.map valI)
        rw [List.length_map] at e
        rw [eqv_nil, filter_nil, e]
    · have sl' : x.length ≤ sizeLine := Nat.le_trans sl (by decide)
      show EvS K _ [some (.dat (.str x)), none] _
      fail "v1"
      fail "v1"
      refine ev_filter (ge2 (cpsI x)) (ei_rng2 ?_)
      fail "w"
      refine rc_lenS sl' ?_
      fail "w"
      refine ⟨_, _, rfl, by omega, ?_, (by show 1 < 2; decide), ?_, ?_⟩
      · rw [nums_length]; omega
      · intro d hd
        obtain ⟨i, hi⟩ := List.getElem?_of_mem hd
        obtain ⟨hi, rfl⟩ := nums_get hi
        obtain ⟨c, hc, ec⟩ := cps_at x (show i < x.length by omega)
        obtain ⟨c2, hc2, ec2⟩ := cps_at x (show i + 1 < x.length by omega)
        fail "w"
        refine rd_ixS sl' (c := c) ?_ ?_
        · rw [show (1 : Int) + (i : Int) - 1 = ((i : Nat) : Int) by omega]; exact at_natA hc
        fail "w"
        refine rd_ixS sl' (c := c2) ?_ ?_
        · rw [show (1 : Int) + (i : Int) = ((i + 1 : Nat) : Int) by omega]; exact at_natA hc2
        fail "w"
        show (!decide ([c] < [c2])) = decide _
        rw [show ((1 : Int) + (i : Int)).toNat = i + 1 by omega, show ((1 : Int) + (i : Int) - 1).toNat = i by omega, ec, ec2]
        by_cases q : c < c2
        · rw [decide_eq_true ((one_lt c c2).mpr q), decide_eq_false (by omega)]; rfl
        · rw [decide_eq_false (fun z => q ((one_lt c c2).mp z)), decide_eq_true (by omega)]; rfl
      · fail "v1"
        fail "v1"
        refine ⟨by decide, ?_⟩
        refine rd_eqA (eqOk_flat (nums_flat _ _ _)) (by decide +kernel) ?_
        show PyData.bool _ = PyData.bool (rising (cpsI x))
        have e := rising_ge2 (cpsI x)
        rw [show (cpsI x).length = x.length by unfold cpsI; rw [List.length_map, Array.length_toList]; rfl] at e
        rw [eqv_nil, filter_nil, e]
theorem ok_isend (F : L2.Fun K "_law_is_end" "_law_is_end" sIsEnd f fd) (bi : Bi mg) (c1 : Cal P w K mg base 2 "_law_is_from" ["thing", "low"] (spF 2 preN fNum)) : FnG P w K mg base 3 f fd ["thing"] (spF 1 preD fEdge) := by
  refine fnD F scsIsEnd _ _ fun cdv A outer s H hg hr => ?_
  refine' ⟨_, ?h1, ?h2⟩
  case h1 =>
    have km : KMark K := ⟨⟩
    have nd : (["thing"] : List Str).Nodup := by decide +kernel
    have : (["thing"] : List Str)[0]? = some ("thing" : Str) := rfl
    fail "fTop"
  case h2 =>
    rintro ds hl ⟨d, rfl, hd⟩
    show EvS K _ [some (.dat d)] _
    cases d with
    | tuple es =>
      by_cases h2 : es.length = 2
      · obtain ⟨a, b, rfl⟩ := len2 h2
        fail "w"
        refine ⟨⟨_, _, rfl⟩, isNum 0 a, rfl, fun hA => ?_, fun hA => ?_⟩
        · fail "w"
          show PyData.bool _ = PyData.bool (isNum 0 a && isB b)
          rw [hA]
          cases b <;> rfl
        · show PyData.bool false = PyData.bool (isNum 0 a && isB b)
          rw [hA]; rfl
      · have hN : PyData.eqv (.int es.length) (.int 2) = false := by
          show decide _ = false
          exact decide_eq_false (by omega)
        have hE : isEdge (.tuple es) = false := isEdge_not (by show ((es.length : Int) == 2) = false; simpa using (by omega : (es.length : Int) ≠ 2))
        fail "w"
        all_goals (rename_i hc; first | (exfalso; rw [hN] at hc; exact Bool.noConfusion hc) | (show PyData.bool false = PyData.bool (isEdge (.tuple es)); rw [hE]))
    | _ =>
      fail "w"
      rfl
theorem fine_lst {n : Nat} {ds : List PyData} (h : ∀ d, d ∈ ds → Fine n d) : Fine (n + 1) (.list ds) := by
  have := fineA_iff.mpr h
  exact ⟨this.nd, this.cl, Nat.succ_le_succ this.dp⟩
abbrev preAr : List PyData → Prop := fun ds => ∃ d, ∃ m : Int, ds = [.int m, d] ∧ Okd d
def fAre : List PyData → PyData
  | [.int m, d] => .bool (isSts m d)
  | _ => .none
theorem ok_are (F : L2.Fun K "_law_are_states" "_law_are_states" sAre f fd) (bi : Bi mg) (c1 : Cal P w K mg base 2 "_law_is_from" ["thing", "low"] (spF 2 preN fNum)) (c2 : Cal P w K mg base 1 "_law_rising" ["things"] (spF 1 preRi fRise)) :
    FnG P w K mg base 3 f fd ["many", "thing"] (spF 2 preAr fAre) := by
  refine fnD F scsAre _ _ fun cdv A outer s H hg hr => ?_
  refine' ⟨_, ?h1, ?h2⟩
  case h1 =>
    have km : KMark K := ⟨⟩
    have nd : (["many", "thing", "s"] : List Str).Nodup := by decide +kernel
    have : (["many", "thing", "s"] : List Str)[0]? = some ("many" : Str) := rfl
    have : (["many", "thing", "s"] : List Str)[1]? = some ("thing" : Str) := rfl
    have : (["many", "thing", "s"] : List Str)[2]? = some ("s" : Str) := rfl
    fail "fTop"
  case h2 =>
    rintro ds hl ⟨d, m, rfl, hd⟩
    show EvS K _ [some (.dat (.int m)), some (.dat d), none] _
    cases d with
    | tuple es =>
      obtain ⟨sl, _⟩ := sm_tup hd.sm
      fail "w"
      refine ev_filter (fun d => !isState m d) (ei_tup ?_)
      fail "w"
      refine ⟨Nat.le_trans sl (by decide), (by show 2 < 3; decide), fun d hd => ?_, ?_⟩
      · fail "w"
        refine ⟨⟨_, _, rfl⟩, isNum 0 d, rfl, ?_⟩
        cases hA : isNum 0 d
        · fail "w"
          show true = !(isNum 0 d && lessI m d)
          rw [hA]; rfl
        · cases d with
          | int i =>
            fail "w"
            show decide (m ≤ i) = !(isNum 0 (.int i) && decide (i < m))
            rw [hA]
            by_cases q : i < m
            · rw [decide_eq_true q, decide_eq_false (by omega)]; rfl
            · rw [decide_eq_false q, decide_eq_true (by omega)]; rfl
          | _ => cases hA
      · have ek : eqOk (.list (es.filter fun d => !isState m d)) = true := fine_eqOk (fine_lst fun d h => (hd.item (List.mem_filter.mp h).1).fn) (by decide)
        have em : PyData.eqv (.list (es.filter fun d => !isState m d)) (.list []) = es.all (isState m) := by
          rw [eqv_nil, filter_nil]
          congr 1
          funext d
          simp
        fail "v1"
        fail "v1"
        refine ⟨by decide, ?_⟩
        refine rd_neA ek (by decide +kernel) ?_
        rw [em]
        refine ⟨_, rfl, fun hc => ?_, fun hc => ?_⟩
        · have hc' : es.all (isState m) = false := by simpa using hc
          refine es_ret (ev_bl ?_)
          show PyData.bool false = PyData.bool (es.all (isState m) && rising (es.map valI))
          rw [hc']; rfl
        · have hc' : es.all (isState m) = true := by simpa using hc
          fail "w"
          refine ⟨.inl ⟨es, rfl, sl, fun i hi => state_at hc' hi⟩, ?_⟩
          show PyData.bool (rising (es.map valI)) = PyData.bool (es.all (isState m) && rising (es.map valI))
          rw [hc']; rfl
    | _ =>
      fail "w"
      rfl
theorem seq_cut {t u : TS} {e : En} {O : Outs} (M : En → Prop) (h1 : EvS K t e { O with nx := M }) (h2 : ∀ e1, M e1 → EvS K u e1 O) : EvS K (tSeq t u) e O := es_seq (h1.imp h2 (fun _ _ z => z) (fun _ z => z) (fun _ z => z) (fun _ z => z))
/-- the last two rows of a look at a limit -/
theorem lim_rest {a b x l m T : PyData} (ox : Okd x) (ol : Okd l) (om : Okd m) (good : ∀ b, (if FD.isNone l then FD.isNone m && !isE x else isEdge l && (FD.isNone m || isEdge m)) = b → PyData.bool b = T) :
    EvS K (tSeq (tIfS (tTest (tOp rIsAny (tVar 3) (tC V.non))) (tRet (tAndV (tOp rIsAny (tVar 4) (tC V.non)) (tOp (rNeA K) (tVar 2) (tC (V.str (Str.ofString "")))))) tNext)
      (tRet (tAndV (tCB (callOf (spF 1 preD fEdge)) (tCons (tVar 3) tNil)) (tOrV (tOp rIsAny (tVar 4) (tC V.non)) (tCB (callOf (spF 1 preD fEdge)) (tCons (tVar 4) tNil))))))
      [some (.dat a), some (.dat b), some (.dat x), some (.dat l), some (.dat m)] { nx := fun _ => PyData.none = T, rt := fun _ d => d = T } := by
  refine es_seq (es_if (ev_test (ev_op (ev_var rfl (ev_non (rd_isN ⟨_, rfl, fun hl => ?_, fun hl => es_next ?_⟩))))))
  · refine es_ret (ev_and (ev_op (ev_var rfl (ev_non (rd_isN ⟨_, rfl, fun hm => ?_, fun hm => ?_⟩)))))
    · refine ev_op (ev_var rfl (ev_str (rd_neA ox.eq (by decide +kernel) ?_)))
      exact good _ (by rw [if_pos hl, hm]; rfl)
    · exact good _ (by rw [if_pos hl, hm]; rfl)
  · have hl' : ¬ FD.isNone l = true := by rw [hl]; decide
    refine es_ret (ev_and (ev_callF (ea_cons (ev_var rfl (ea_nil ⟨rfl, ⟨l, rfl, ol.sm⟩, isEdge l, rfl, fun hE => ?_, fun hE => ?_⟩)))))
    · refine ev_or (ev_op (ev_var rfl (ev_non (rd_isN ⟨_, rfl, fun hm => ?_, fun hm => ?_⟩))))
      · exact ev_callF (ea_cons (ev_var rfl (ea_nil ⟨rfl, ⟨m, rfl, om.sm⟩, good (isEdge m) (by rw [if_neg hl', hE, hm]; rfl)⟩)))
      · exact good _ (by rw [if_neg hl', hE, hm]; rfl)
    · exact good _ (by rw [if_neg hl', hE]; rfl)
abbrev preIl : List PyData → Prop := fun ds => ∃ d, ∃ L : Str, ds = [.str L, d] ∧ Okd d
def fIsLim : List PyData → PyData
  | [.str L, d] => .bool (isLim L d)
  | _ => .none
theorem ok_islim (F : L2.Fun K "_law_is_limit" "_law_is_limit" sIsLim f fd) (bi : Bi mg) (c1 : Cal P w K mg base 1 "_law_is_letter" ["thing"] (spF 1 preD fLet)) (c2 : Cal P w K mg base 3 "_law_is_end" ["thing"] (spF 1 preD fEdge)) :
    FnG P w K mg base 4 f fd ["letters", "thing"] (spF 2 preIl fIsLim) := by
  refine fnD F scsIsLim _ _ fun cdv A outer s H hg hr => ?_
  refine' ⟨_, ?h1, ?h2⟩
  case h1 =>
    have km : KMark K := ⟨⟩
    have nd : (["letters", "thing", "x", "least", "most"] : List Str).Nodup := by decide +kernel
    have : (["letters", "thing", "x", "least", "most"] : List Str)[0]? = some ("letters" : Str) := rfl
    have : (["letters", "thing", "x", "least", "most"] : List Str)[1]? = some ("thing" : Str) := rfl
    have : (["letters", "thing", "x", "least", "most"] : List Str)[2]? = some ("x" : Str) := rfl
    have : (["letters", "thing", "x", "least", "most"] : List Str)[3]? = some ("least" : Str) := rfl
    have : (["letters", "thing", "x", "least", "most"] : List Str)[4]? = some ("most" : Str) := rfl
    fail "fTop"
  case h2 =>
    rintro ds hl ⟨d, L, rfl, hd⟩
    show EvS K _ [some (.dat (.str L)), some (.dat d), none, none, none] _
    cases d with
    | tuple es =>
      by_cases h3 : es.length = 3
      · obtain ⟨x, l, m, rfl⟩ := len3 h3
        have ox : Okd x := hd.item (by simp)
        have ol : Okd l := hd.item (by simp)
        have om : Okd m := hd.item (by simp)
        have ex : eqOk x = true := ox.eq
        have bad : (letOf L x || isE x) = false → PyData.bool false = fIsLim [.str L, .tuple [x, l, m]] := fun h => by
          show PyData.bool false = PyData.bool ((letOf L x || isE x) && _)
          rw [h]; rfl
        have good : (letOf L x || isE x) = true → ∀ b, (if FD.isNone l then FD.isNone m && !isE x else isEdge l && (FD.isNone m || isEdge m)) = b → PyData.bool b = fIsLim [.str L, .tuple [x, l, m]] := fun h b hb => by
          show PyData.bool b = PyData.bool ((letOf L x || isE x) && _)
          rw [h, hb]; rfl
        cases x with
        | str y =>
          refine seq_cut (fun e1 => e1 = [some (.dat (.str L)), some (.dat (.tuple [.str y, l, m])), none, none, none]) ?_ ?_
          · fail "w"
            rfl
          rintro e rfl
          refine seq_cut (fun e1 => e1 = [some (.dat (.str L)), some (.dat (.tuple [.str y, l, m])), some (.dat (.str y)), some (.dat l), some (.dat m)]) ?_ ?_
          · fail "w"
            rfl
          rintro e rfl
          refine es_seq (es_if (eb_and (ev_test (ev_op (ev_var rfl (ev_str (rd_neA ex (by decide +kernel) ⟨_, rfl, fun hc => ?_, fun hc => ⟨(fun h => Bool.noConfusion h), fun _ => es_next (lim_rest ox ol om (good ?_))⟩⟩)))))))
          · have e0 : isE (.str y) = false := by unfold isE; simpa using hc
            refine eb_or (eb_not (ev_tB (ev_callF (ea_cons (ev_var rfl (ea_nil ⟨rfl, ⟨.str y, rfl, ox.sm⟩, isLet (.str y), rfl, fun hA => ?_, fun hA => ⟨fun _ => es_ret (ev_bl (bad ?_)), fun h => Bool.noConfusion h⟩⟩))))))
            · have hA' : isLet (.str y) = true := by simpa using hA
              refine ev_test (ev_op (ev_var rfl (ev_var rfl (rd_ninStr ⟨_, rfl, fun hi => es_ret (ev_bl (bad ?_)), fun hi => es_next (lim_rest ox ol om (good ?_))⟩))))
              · show ((isLet (.str y) && FD.inS y L) || isE (.str y)) = false
                rw [e0, show FD.inS y L = false by simpa using hi, Bool.and_false]; rfl
              · show ((isLet (.str y) && FD.inS y L) || isE (.str y)) = true
                rw [hA', show FD.inS y L = true by simpa using hi]; rfl
            · show ((isLet (.str y) && FD.inS y L) || isE (.str y)) = false
              rw [e0, show isLet (.str y) = false by simpa using hA]; rfl
          · show ((isLet (.str y) && FD.inS y L) || isE (.str y)) = true
            rw [show isE (.str y) = true by unfold isE; simpa using hc, Bool.or_true]
        | _ =>
          fail "w"
          exact bad rfl
      · have hN : PyData.eqv (.int es.length) (.int 3) = false := by
          show decide _ = false
          exact decide_eq_false (by omega)
        have hE : isLim L (.tuple es) = false := isLim_not (by show ((es.length : Int) == 3) = false; simpa using (by omega : (es.length : Int) ≠ 3))
        fail "w"
        all_goals (rename_i hc; first | (exfalso; rw [hN] at hc; exact Bool.noConfusion hc) | (show PyData.bool false = PyData.bool (isLim L (.tuple es)); rw [hE]))
    | _ =>
      fail "w"
      rfl
end


abbrev sIsMach : Stmt := tp 32
theorem scsIsMach : FnScope ["thing", "letters", "many", "starts", "ends", "steps", "sign", "step"] ["thing"] (defScope sIsMach) := ⟨rfl, rfl, rfl, by decide +kernel, rfl, by decide +kernel, by decide +kernel⟩
abbrev sIsStep : Stmt := tp 31
theorem scsIsStep : FnScope ["letters", "many", "thing", "limit"] ["letters", "many", "thing"] (defScope sIsStep) := ⟨rfl, rfl, rfl, by decide +kernel, rfl, by decide +kernel, by decide +kernel⟩
theorem fine_in {n : Nat} {ds : List PyData} (h : Fine (n + 1) (.tuple ds)) : ∀ d, d ∈ ds → Fine n d := fineA_iff.mp ⟨h.nd, h.cl, by
  have h3 : PyData.depthAll ds + 1 ≤ n + 1 := h.dp
  omega⟩
theorem Okd.one {ds : List PyData} (h : Okd (.tuple ds)) {d : PyData} (hd : d ∈ ds) : Okd (.tuple [d]) :=
  ⟨sm_mk (by show 1 ≤ 1000; decide) fun e he => by obtain rfl := List.mem_singleton.mp he; exact (h.item hd).sm, fine_tup (n := 59) fun e he => by obtain rfl := List.mem_singleton.mp he; exact fine_in h.fn _ hd⟩
theorem sts_one (m : Int) (d : PyData) : isSts m (.tuple [d]) = isState m d := by
  show (([d].all (isState m)) && rising [valI d]) = _
  rw [show rising [valI d] = true from rfl, Bool.and_true]
  show (isState m d && true) = _
  rw [Bool.and_true]
theorem sign_okd {L : Str} (h : Okd (.str L)) {d : PyData} (hd : d ∈ FD.signs L) : Okd d := by
  obtain ⟨c, hc, rfl⟩ := List.mem_map.mp hd
  refine ⟨by show decide (1 ≤ 1000) = true; decide, rfl, ?_, Nat.zero_le _⟩
  have hl : L.cps.all (· < 0x110000) = true := h.fn.cl
  have : c < 0x110000 := by
    have := Array.all_eq_true'.mp hl c (by simpa using hc)
    simpa using this
  show (#[c]).all (· < 0x110000) = true
  simp
  exact this
abbrev preIs : List PyData → Prop := fun ds => ∃ d, ∃ L : Str, ∃ m : Int, ds = [.str L, .int m, d] ∧ Okd d
def fIsStep : List PyData → PyData
  | [.str L, .int m, d] => .bool (isStep L m d)
  | _ => .none
section
variable {P : Program} {w : World} {K : PySem.W.Frag} {mg : Str → Option Value} {base : Heap} {f : Addr} {fd : FuncData}
theorem ok_isstep (F : L2.Fun K "_law_is_step" "_law_is_step" sIsStep f fd) (bi : Bi mg) (c1 : Cal P w K mg base 1 "_law_is_letter" ["thing"] (spF 1 preD fLet)) (c2 : Cal P w K mg base 3 "_law_are_states" ["many", "thing"] (spF 2 preAr fAre))
    (c3 : Cal P w K mg base 4 "_law_is_limit" ["letters", "thing"] (spF 2 preIl fIsLim)) : FnG P w K mg base 5 f fd ["letters", "many", "thing"] (spF 3 preIs fIsStep) := by
  refine fnD F scsIsStep _ _ fun cdv A outer s H hg hr => ?_
  refine' ⟨_, ?h1, ?h2⟩
  case h1 =>
    have km : KMark K := ⟨⟩
    have nd : (["letters", "many", "thing", "limit"] : List Str).Nodup := by decide +kernel
    have : (["letters", "many", "thing", "limit"] : List Str)[0]? = some ("letters" : Str) := rfl
    have : (["letters", "many", "thing", "limit"] : List Str)[1]? = some ("many" : Str) := rfl
    have : (["letters", "many", "thing", "limit"] : List Str)[2]? = some ("thing" : Str) := rfl
    have : (["letters", "many", "thing", "limit"] : List Str)[3]? = some ("limit" : Str) := rfl
    fail "fTop"
  case h2 =>
    rintro ds hl ⟨d, L, m, rfl, hd⟩
    show EvS K _ [some (.dat (.str L)), some (.dat (.int m)), some (.dat d), none] _
    cases d with
    | tuple es =>
      by_cases h4 : es.length = 4
      · obtain ⟨s0, a0, ls, t0, rfl⟩ := len4 h4
        have oa : Okd a0 := hd.item (by simp)
        have ol : Okd ls := hd.item (by simp)
        have unf : fIsStep [.str L, .int m, .tuple [s0, a0, ls, t0]] = .bool (isState m s0 && (letOf L a0 && (isState m t0 && allLim L ls))) := rfl
        have bad : (isState m s0 && (letOf L a0 && isState m t0)) = false → PyData.bool false = fIsStep [.str L, .int m, .tuple [s0, a0, ls, t0]] := fun h => by
          rw [unf]
          congr 1
          revert h
          cases isState m s0 <;> cases letOf L a0 <;> cases isState m t0 <;> simp
        fail "z"
        refine ⟨⟨_, m, rfl, hd.one (by simp)⟩, isSts m (.tuple [s0]), rfl, ?_⟩
        rw [sts_one]
        cases h1 : isState m s0
        · fail "z"
          exact bad (by rw [h1]; rfl)
        fail "z"
        refine ⟨⟨_, m, rfl, hd.one (by simp)⟩, isSts m (.tuple [t0]), rfl, ?_⟩
        rw [sts_one]
        cases h2 : isState m t0
        · fail "z"
          exact bad (by rw [h1, h2, Bool.and_false]; rfl)
        fail "z"
        refine ⟨⟨a0, rfl, oa.sm⟩, isLet a0, rfl, ?_⟩
        cases h3 : isLet a0
        · have h3' : letOf L a0 = false := by
            cases a0 with
            | str y => show (isLet (.str y) && _) = false; rw [h3]; rfl
            | _ => rfl
          fail "z"
          exact bad (by rw [h3', h1]; rfl)
        obtain ⟨y, hy⟩ : ∃ y, a0 = .str y := by
          cases a0 with
          | str y => exact ⟨y, rfl⟩
          | _ => cases h3
        subst hy
        have hlo : letOf L (.str y) = FD.inS y L := by show (isLet (.str y) && FD.inS y L) = _; rw [h3]; rfl
        refine ⟨fun _ => ?_, fun h => Bool.noConfusion h⟩
        refine ev_test (ev_op ?_)
        cases ls with
        | tuple zs =>
          obtain ⟨sl, _⟩ := sm_tup ol.sm
          fail "z"
          · rename_i hc
            exact bad (by rw [hlo, show FD.inS y L = false by simpa using hc, Bool.false_and, Bool.and_false])
          · have hi : FD.inS y L = true := by simpa using ‹(!FD.inS y L) = false›
            refine ev_filter (fun d => !isLim L d) (ei_tup ?_)
            fail "z"
            refine ⟨Nat.le_trans sl (by decide), (by show 3 < 4; decide), fun d hd' => ?_, ?_⟩
            · fail "z"
              exact ⟨⟨d, L, rfl, ol.item hd'⟩, _, rfl, rfl, rfl⟩
            · have ek : eqOk (.list (zs.filter fun d => !isLim L d)) = true := fine_eqOk (fine_lst fun d h => (ol.item (List.mem_filter.mp h).1).fn) (by decide)
              have em : PyData.eqv (.list (zs.filter fun d => !isLim L d)) (.list []) = zs.all (isLim L) := by
                rw [eqv_nil, filter_nil]
                congr 1
                funext d
                simp
              fail "v1"
              fail "v1"
              refine ⟨by decide, ?_⟩
              refine rd_eqA ek (by decide +kernel) ?_
              rw [em]
              show PyData.bool _ = fIsStep [.str L, .int m, .tuple [s0, .str y, .tuple zs, t0]]
              rw [unf, h1, hlo, hi, h2]
              rfl
        | _ =>
          fail "z"
          · rename_i hc
            exact bad (by rw [hlo, show FD.inS y L = false by simpa using hc, Bool.false_and, Bool.and_false])
          · show PyData.bool false = fIsStep _
            rw [unf, show allLim L _ = false from rfl, Bool.and_false, Bool.and_false, Bool.and_false]
      · have hN : PyData.eqv (.int es.length) (.int 4) = false := by
          show decide _ = false
          exact decide_eq_false (by omega)
        have hE : isStep L m (.tuple es) = false := isStep_not (by show ((es.length : Int) == 4) = false; simpa using (by omega : (es.length : Int) ≠ 4))
        fail "w"
        all_goals (rename_i hc; first | (exfalso; rw [hN] at hc; exact Bool.noConfusion hc) | (show PyData.bool false = PyData.bool (isStep L m (.tuple es)); rw [hE]))
    | _ =>
      fail "w"
      rfl
theorem ok_ismach (F : L2.Fun K "_law_is_machine" "_law_is_machine" sIsMach f fd) (bi : Bi mg) (c1 : Cal P w K mg base 1 "_law_is_letter" ["thing"] (spF 1 preD fLet)) (c2 : Cal P w K mg base 1 "_law_rising" ["things"] (spF 1 preRi fRise))
    (c3 : Cal P w K mg base 2 "_law_is_from" ["thing", "low"] (spF 2 preN fNum)) (c4 : Cal P w K mg base 3 "_law_are_states" ["many", "thing"] (spF 2 preAr fAre)) (c5 : Cal P w K mg base 5 "_law_is_step" ["letters", "many", "thing"] (spF 3 preIs fIsStep)) :
    FnG P w K mg base 6 f fd ["thing"] (spF 1 preMa fMach) := by
  refine fnD F scsIsMach _ _ fun cdv A outer s H hg hr => ?_
  refine' ⟨_, ?h1, ?h2⟩
  case h1 =>
    have km : KMark K := ⟨⟩
    have nd : (["thing", "letters", "many", "starts", "ends", "steps", "sign", "step"] : List Str).Nodup := by decide +kernel
    have : (["thing", "letters", "many", "starts", "ends", "steps", "sign", "step"] : List Str)[0]? = some ("thing" : Str) := rfl
    have : (["thing", "letters", "many", "starts", "ends", "steps", "sign", "step"] : List Str)[1]? = some ("letters" : Str) := rfl
    have : (["thing", "letters", "many", "starts", "ends", "steps", "sign", "step"] : List Str)[2]? = some ("many" : Str) := rfl
    have : (["thing", "letters", "many", "starts", "ends", "steps", "sign", "step"] : List Str)[3]? = some ("starts" : Str) := rfl
    have : (["thing", "letters", "many", "starts", "ends", "steps", "sign", "step"] : List Str)[4]? = some ("ends" : Str) := rfl
    have : (["thing", "letters", "many", "starts", "ends", "steps", "sign", "step"] : List Str)[5]? = some ("steps" : Str) := rfl
    have : (["thing", "letters", "many", "starts", "ends", "steps", "sign", "step"] : List Str)[6]? = some ("sign" : Str) := rfl
    have : (["thing", "letters", "many", "starts", "ends", "steps", "sign", "step"] : List Str)[7]? = some ("step" : Str) := rfl
    fail "fTop"
  case h2 =>
    rintro ds hl ⟨d, rfl, hd⟩
    show EvS K _ [some (.dat d), none, none, none, none, none, none, none] _
    cases d with
    | tuple es =>
      by_cases h5 : es.length = 5
      · obtain ⟨l, m, st, en, sp, rfl⟩ := len5 h5
        have ol : Okd l := hd.item (by simp)
        have ost : Okd st := hd.item (by simp)
        have oen : Okd en := hd.item (by simp)
        have osp : Okd sp := hd.item (by simp)
        have unf : fMach [.tuple [l, m, st, en, sp]] = .bool (isLets l && (isNum 1 m && (isT sp && (isSts (valI m) st && (isSts (valI m) en && allSteps (valI m) l sp))))) := rfl
        have bad : (isLets l && (isNum 1 m && (isT sp && (isSts (valI m) st && isSts (valI m) en)))) = false → PyData.bool false = fMach [.tuple [l, m, st, en, sp]] := fun h => by
          rw [unf]
          congr 1
          revert h
          cases isLets l <;> cases isNum 1 m <;> cases isT sp <;> cases isSts (valI m) st <;> cases isSts (valI m) en <;> simp
        cases l with
        | str L =>
          refine seq_cut (fun e1 => e1 = [some (.dat (.tuple [.str L, m, st, en, sp])), none, none, none, none, none, none, none] ∧ L ≠ "") ?_ ?_
          · fail "z"
            refine rd_eqS ⟨_, rfl, fun hc => es_ret (ev_bl (bad ?_)), fun hc => es_next ⟨rfl, of_decide_eq_false hc⟩⟩
            show ((!decide (L = "") && _) && _) = false
            rw [hc]; rfl
          rintro e ⟨rfl, hne⟩
          refine seq_cut (fun e1 => e1 = [some (.dat (.tuple [.str L, m, st, en, sp])), some (.dat (.str L)), some (.dat m), some (.dat st), some (.dat en), some (.dat sp), none, none]) ?_ ?_
          · fail "z"
            rfl
          rintro e rfl
          have hL : L.length ≤ 1000 := of_decide_eq_true ol.sm
          have lets : isLets (.str L) = ((FD.signs L).all isLet && rising (cpsI L)) := by
            show (!decide (L = "") && ((FD.signs L).all isLet && rising (cpsI L))) = _
            rw [decide_eq_false hne]; rfl
          have so : ∀ d, d ∈ FD.signs L → Okd d := fun d h => sign_okd ol h
          refine seq_cut (fun e1 => e1 = [some (.dat (.tuple [.str L, m, st, en, sp])), some (.dat (.str L)), some (.dat m), some (.dat st), some (.dat en), some (.dat sp), none, none] ∧ isLets (.str L) = true) ?_ ?_
          · refine es_if (eb_or (ev_test (ev_op (ev_filter (fun d => !isLet d) (ei_str (ev_var rfl ⟨L, rfl, ?_, (by show 6 < 8; decide), fun d hd => ?_, ?_⟩))))))
            · show (FD.signs L).length ≤ 100000
              unfold FD.signs
              rw [List.length_map, Array.length_toList]
              exact Nat.le_trans hL (by decide)
            · fail "z"
              exact ⟨⟨d, rfl, (so d hd).sm⟩, _, rfl, rfl, rfl⟩
            · have ek : eqOk (.list ((FD.signs L).filter fun d => !isLet d)) = true := fine_eqOk (fine_lst fun d h => (so d (List.mem_filter.mp h).1).fn) (by decide)
              have em : PyData.eqv (.list ((FD.signs L).filter fun d => !isLet d)) (.list []) = (FD.signs L).all isLet := by
                rw [eqv_nil, filter_nil]
                congr 1
                funext d
                simp
              fail "v1"
              fail "v1"
              refine ⟨by decide, ?_⟩
              refine rd_neA ek (by decide +kernel) ?_
              rw [em]
              refine ⟨_, rfl, fun hc => ?_, fun hc => ⟨fun _ => es_ret (ev_bl (bad ?_)), fun h => Bool.noConfusion h⟩⟩
              · have hc' : (FD.signs L).all isLet = true := by simpa using hc
                refine eb_not (ev_tB (ev_callF (ea_cons (ev_var rfl (ea_nil ⟨rfl, .inr ⟨L, rfl, hL⟩, rising (cpsI L), rfl, fun hr => es_ret (ev_bl (bad ?_)), fun hr => es_next ⟨rfl, ?_⟩⟩)))))
                · rw [lets, show rising (cpsI L) = false by simpa using hr, Bool.and_false]; rfl
                · rw [lets, hc', show rising (cpsI L) = true by simpa using hr]; rfl
              · rw [lets, show (FD.signs L).all isLet = false by simpa using hc]; rfl
          rintro e ⟨rfl, h1⟩
          refine seq_cut (fun e1 => e1 = [some (.dat (.tuple [.str L, m, st, en, sp])), some (.dat (.str L)), some (.dat m), some (.dat st), some (.dat en), some (.dat sp), none, none] ∧ isNum 1 m = true ∧ isSts (valI m) st = true ∧ isSts (valI m) en = true) ?_ ?_
          · fail "z"
            refine ⟨⟨m, 1, rfl⟩, isNum 1 m, rfl, ?_⟩
            cases h2 : isNum 1 m
            · fail "z"
              exact bad (by rw [h1, h2]; rfl)
            obtain ⟨i, hi⟩ : ∃ i, m = .int i := by
              cases m with
              | int i => exact ⟨i, rfl⟩
              | _ => cases h2
            subst hi
            fail "z"
            refine ⟨⟨st, i, rfl, ost⟩, isSts i st, rfl, ?_⟩
            cases h3 : isSts i st
            · fail "z"
              exact bad (by rw [h1, h2]; show (true && (true && (isT sp && (isSts i st && isSts i en)))) = false; rw [h3]; simp)
            fail "z"
            refine ⟨⟨en, i, rfl, oen⟩, isSts i en, rfl, ?_⟩
            cases h4 : isSts i en
            · fail "z"
              exact bad (by rw [h1, h2]; show (true && (true && (isT sp && (isSts i st && isSts i en)))) = false; rw [h4]; simp)
            fail "z"
            exact ⟨h3, h4⟩
          rintro e ⟨rfl, h2, h3, h4⟩
          obtain ⟨i, hi⟩ : ∃ i, m = .int i := by
            cases m with
            | int i => exact ⟨i, rfl⟩
            | _ => cases h2
          subst hi
          cases sp with
          | tuple zs =>
            obtain ⟨sl, _⟩ := sm_tup osp.sm
            fail "z"
            refine ev_filter (fun d => !isStep L i d) (ei_tup ?_)
            fail "z"
            refine ⟨Nat.le_trans sl (by decide), (by show 7 < 8; decide), fun d hd' => ?_, ?_⟩
            · fail "z"
              exact ⟨⟨d, L, i, rfl, osp.item hd'⟩, _, rfl, rfl, rfl⟩
            · have ek : eqOk (.list (zs.filter fun d => !isStep L i d)) = true := fine_eqOk (fine_lst fun d h => (osp.item (List.mem_filter.mp h).1).fn) (by decide)
              have em : PyData.eqv (.list (zs.filter fun d => !isStep L i d)) (.list []) = zs.all (isStep L i) := by
                rw [eqv_nil, filter_nil]
                congr 1
                funext d
                simp
              fail "v1"
              fail "v1"
              refine ⟨by decide, ?_⟩
              refine rd_eqA ek (by decide +kernel) ?_
              rw [em]
              show PyData.bool _ = fMach [.tuple [.str L, .int i, st, en, .tuple zs]]
              rw [unf, h1, h2, h3, h4]
              rfl
          | _ =>
            fail "z"
            exact bad (by rw [h1, h2]; rfl)
        | _ =>
          fail "z"
          exact bad rfl
      · have hN : PyData.eqv (.int es.length) (.int 5) = false := by
          show decide _ = false
          exact decide_eq_false (by omega)
        have hE : isMach (.tuple es) = false := isMach_not (by show ((es.length : Int) == 5) = false; simpa using (by omega : (es.length : Int) ≠ 5))
        fail "w"
        all_goals (rename_i hc; first | (exfalso; rw [hN] at hc; exact Bool.noConfusion hc) | (show PyData.bool false = PyData.bool (isMach (.tuple es)); rw [hE]))
    | _ =>
      fail "w"
      rfl
end


abbrev sMkEnd : Stmt := tp 19
theorem scsMkEnd : FnScope ["pile", "m"] ["pile", "m"] (defScope sMkEnd) := ⟨rfl, rfl, rfl, by decide +kernel, rfl, by decide +kernel, by decide +kernel⟩
abbrev sMkLim : Stmt := tp 20
theorem scsMkLim : FnScope ["pile", "letters", "m", "x", "least", "most"] ["pile", "letters", "m"] (defScope sMkLim) := ⟨rfl, rfl, rfl, by decide +kernel, rfl, by decide +kernel, by decide +kernel⟩
/-- a made edge -/
def EdgeM (m : Int) (d : PyData) : Prop := ∃ (a : Int) (b : Bool), d = .tuple [.int a, .bool b] ∧ 0 ≤ a ∧ a ≤ m
abbrev preME : List PyData → Prop := fun ds => ∃ m : Int, ds = [.int m] ∧ 0 ≤ m ∧ m ≤ 900
abbrev postME : List PyData → PyData → Prop := fun ds d => ∃ m : Int, ds = [.int m] ∧ EdgeM m d
section
variable {P : Program} {w : World} {K : PySem.W.Frag} {mg : Str → Option Value} {base : Heap} {f : Addr} {fd : FuncData}
theorem ok_mkend (F : L2.Fun K "_law_end" "_law_end" sMkEnd f fd) (bi : Bi mg) (c1 : Cal P w K mg base 2 "_law_take" ["pile", "size"] (spP 1 preT postT)) :
    FnG P w K mg base 3 f fd ["pile", "m"] (spP 1 preME postME) := by
  refine fnP F scsMkEnd (by simp) _ _ fun cdv A outer s H hg hr => ?_
  refine' ⟨_, ?h1, ?h2⟩
  case h1 =>
    have km : KMark K := ⟨⟩
    have nd : (["pile", "m"] : List Str).Nodup := by decide +kernel
    have : (["pile", "m"] : List Str)[0]? = some ("pile" : Str) := rfl
    have : (["pile", "m"] : List Str)[1]? = some ("m" : Str) := rfl
    fail "fTop"
  case h2 =>
    rintro p ds hl ⟨m, rfl, m0, m1⟩
    show EvS K _ [some (.pile p), some (.dat (.int m))] _
    fail "z"
    refine ⟨⟨m + 1, rfl, by omega, by omega⟩, ?_⟩
    rintro y ⟨n', z, e, rfl, z0, z1⟩
    cases e
    fail "z"
    refine ⟨⟨2, rfl, by decide, by decide⟩, ?_⟩
    rintro y ⟨n', z2, e, rfl, z3, z4⟩
    cases e
    fail "z"
    exact ⟨z, _, rfl, z0, by omega⟩
end


abbrev sLets : Stmt := tp 5
theorem scsLets : FnScope ["thing", "sign"] ["thing"] (defScope sLets) := ⟨rfl, rfl, rfl, by decide +kernel, rfl, by decide +kernel, by decide +kernel⟩
theorem az_of {x : Str} (h : (FD.signs x).all isLet = true) : FD.Az x.cps.toList := fun c hc => by
  have z := List.all_eq_true.mp h (.str ⟨#[c]⟩) (List.mem_map.mpr ⟨c, hc, rfl⟩)
  exact of_decide_eq_true z
theorem rising_cc (a b : Int) (r : List Int) : rising (a :: b :: r) = (decide (a < b) && rising (b :: r)) := by
  unfold rising
  show (List.range (r.length + 1)).all _ = _
  rw [List.range_succ_eq_map, List.all_cons, List.all_map]
  rfl
theorem rising_pw : ∀ l : List Nat, rising (l.map fun c : Nat => (c : Int)) = true ↔ l.Pairwise (· < ·)
  | [] => ⟨fun _ => .nil, fun _ => rfl⟩
  | [a] => ⟨fun _ => List.pairwise_singleton .., fun _ => rfl⟩
  | a :: b :: r => by
    have ih := rising_pw (b :: r)
    show rising ((a : Int) :: (b : Int) :: r.map fun c : Nat => (c : Int)) = true ↔ _
    rw [rising_cc, Bool.and_eq_true, decide_eq_true_eq, show rising ((b : Int) :: r.map fun c : Nat => (c : Int)) = rising ((b :: r).map fun c : Nat => (c : Int)) from rfl, ih]
    constructor
    · rintro ⟨h1, h2⟩
      refine List.pairwise_cons.mpr ⟨fun y hy => ?_, h2⟩
      rcases List.mem_cons.mp hy with e | hy
      · rw [e]; omega
      · have := (List.pairwise_cons.mp h2).1 y hy; omega
    · intro h
      obtain ⟨h1, h2⟩ := List.pairwise_cons.mp h
      exact ⟨by have := h1 b (.head _); omega, h2⟩
theorem asc_ext : ∀ {l m : List Nat}, l.Pairwise (· < ·) → m.Pairwise (· < ·) → (∀ c, c ∈ l ↔ c ∈ m) → l = m
  | [], [], _, _, _ => rfl
  | [], b :: m, _, _, h => absurd ((h b).mpr (.head _)) (by simp)
  | a :: l, [], _, _, h => absurd ((h a).mp (.head _)) (by simp)
  | a :: l, b :: m, h1, h2, h => by
    obtain ⟨p1, q1⟩ := List.pairwise_cons.mp h1
    obtain ⟨p2, q2⟩ := List.pairwise_cons.mp h2
    have e : a = b := by
      rcases List.mem_cons.mp ((h a).mp (.head _)) with e | i1
      · exact e
      · rcases List.mem_cons.mp ((h b).mpr (.head _)) with e | i2
        · exact e.symm
        · have := p2 a i1; have := p1 b i2; omega
    subst e
    congr 1
    refine asc_ext q1 q2 fun c => ⟨fun hc => ?_, fun hc => ?_⟩
    · rcases List.mem_cons.mp ((h c).mp (.tail _ hc)) with e | i
      · have := p1 c hc; omega
      · exact i
    · rcases List.mem_cons.mp ((h c).mpr (.tail _ hc)) with e | i
      · have := p2 c hc; omega
      · exact i
abbrev sg (l : List Nat) : List PyData := l.map fun c => PyData.str ⟨#[c]⟩
theorem eqv_sg : ∀ l m : List Nat, PyData.eqvAll (sg l) (sg m) = decide (l = m)
  | [], [] => rfl
  | [], _ :: _ => rfl
  | _ :: _, [] => rfl
  | a :: l, b :: m => by
    have e : PyData.eqvAll (sg (a :: l)) (sg (b :: m)) = (((⟨#[a]⟩ : Str) == ⟨#[b]⟩) && PyData.eqvAll (sg l) (sg m)) := by simp [PyData.eqvAll, PyData.eqv]
    rw [e, eqv_sg l m]
    by_cases z : a = b
    · subst z
      simp
    · have z' : ((⟨#[a]⟩ : Str) == ⟨#[b]⟩) = false := by
        rw [beq_eq_false_iff_ne]
        intro h
        exact z (List.cons.inj (congrArg (fun y : Str => y.cps.toList) h)).1
      rw [z', decide_eq_false fun h => z (List.cons.inj h).1]
      rfl
theorem sg_ok {l : List Nat} (h : FD.Az l) : eqOk (.list (sg l)) = true := fine_eqOk (n := 1) (fine_lst fun d hd => by
  obtain ⟨c, hc, rfl⟩ := List.mem_map.mp hd
  exact fine_let (by have := (h c hc).2; omega) 0) (by decide)
theorem lets_eq {x : Str} {zs : List Nat} (h1 : zs.Pairwise (· < ·)) (h2 : ∀ c, c ∈ zs ↔ c ∈ x.cps.toList) : PyData.eqv (.list (FD.signs x)) (.list (sg zs)) = rising (x.cps.toList.map fun c : Nat => (c : Int)) := by
  have e : PyData.eqv (.list (FD.signs x)) (.list (sg zs)) = PyData.eqvAll (sg x.cps.toList) (sg zs) := by simp [PyData.eqv, FD.signs]
  rw [e, eqv_sg]
  have r := rising_pw x.cps.toList
  cases z : rising (x.cps.toList.map fun c : Nat => (c : Int)) with
  | true => exact decide_eq_true (asc_ext (r.mp z) h1 fun c => (h2 c).symm)
  | false =>
    refine decide_eq_false fun k => ?_
    have : rising (x.cps.toList.map fun c : Nat => (c : Int)) = true := r.mpr (k ▸ h1)
    rw [z] at this
    cases this
section
variable {P : Program} {w : World} {K : PySem.W.Frag} {mg : Str → Option Value} {base : Heap} {f : Addr} {fd : FuncData}
theorem ok_lets (F : L2.Fun K "is_letters" "is_letters" sLets f fd) (bi : Bi mg) (b2 : FD.Bi2 mg) (c1 : Cal P w K mg base 1 "is_letter" ["thing"] (spF 1 preD fLet)) :
    FnG P w K mg base 2 f fd ["thing"] (spF 1 preD fLets) := by
  refine fnD F scsLets _ _ fun cdv A outer s H hg hr => ?_
  refine' ⟨_, ?h1, ?h2⟩
  case h1 =>
    have km : KMark K := ⟨⟩
    have nd : (["thing", "sign"] : List Str).Nodup := by decide +kernel
    have : (["thing", "sign"] : List Str)[0]? = some ("thing" : Str) := rfl
    have : (["thing", "sign"] : List Str)[1]? = some ("sign" : Str) := rfl
    fail "fTop"
  case h2 =>
    rintro ds hl ⟨d, rfl, hd⟩
    show EvS K _ [some (.dat d), none] _
    cases d with
    | str x =>
      have hx : x.length ≤ sizeLine := sm_str hd
      fail "w"
      have unf : fLets [.str x] = .bool (!decide (x = "") && ((FD.signs x).all isLet && rising (x.cps.toList.map fun c : Nat => (c : Int)))) := rfl
      refine rd_eqS ⟨_, rfl, fun h => ?_, fun h => es_next ?_⟩
      · fail "w"
        rw [unf, show decide (x = "") = true from h]; rfl
      · rw [unf, show decide (x = "") = false from h]
        refine es_ret (ev_and (ev_cb (ea_cons (ev_map (fun d => .bool (isLet d)) (ei_str (ev_var rfl ⟨x, rfl, ?_, ?_, ?_⟩))))))
        · show (x.cps.toList.map _).length ≤ _
          rw [List.length_map, Array.length_toList]
          exact Nat.le_trans (show x.length ≤ 1000 from by simpa [sm] using hd) (by decide)
        · intro d hd
          obtain ⟨c, hc, rfl⟩ := List.mem_map.mp hd
          fail "w"
          exact ⟨⟨_, rfl, rfl⟩, rfl, rfl⟩
        · refine ea_nil (rc_allM ⟨_, rfl, fun h2 => ?_, fun h2 => ?_⟩)
          · have az := az_of h2
            rw [h2]
            refine ev_op (ev_cb (ea_cons (ev_var rfl (ea_nil (rc_listS hx (ev_cb (ea_cons (ev_var rfl (ea_nil (rc_sortSet az fun zs z1 z2 => ?_))))))))))
            refine rd_eqA (sg_ok az) (sg_ok fun c hc => az c ((z2 c).mp hc)) ?_
            rw [lets_eq z1 z2]; rfl
          · show PyData.bool false = PyData.bool (true && ((FD.signs x).all isLet && _))
            rw [show (FD.signs x).all isLet = false from h2]; rfl
    | _ =>
      fail "w"
      rfl
end


mutual
/-- numbers and signs in it are small -/
def rpB : PyData → Bool
  | .int i => decide (i.natAbs < 1000)
  | .str x => x.cps.toList.all fun c => decide (c < 200)
  | .list ds => rpA ds
  | .tuple ds => rpA ds
  | .dict _ => false
  | _ => true
def rpA : List PyData → Bool
  | [] => true
  | d :: ds => rpB d && rpA ds
end
theorem rpA_mk : ∀ {ds : List PyData}, (∀ d, d ∈ ds → rpB d = true) → rpA ds = true
  | [], _ => rfl
  | d :: ds, h => by
    show (rpB d && rpA ds) = true
    rw [h d List.mem_cons_self, rpA_mk fun e he => h e (List.mem_cons_of_mem _ he)]; rfl
mutual
theorem rp_sh : ∀ d : PyData, rpB d = true → PyData.showable d = true ∧ PyData.hasDict d = false
  | .none, _ => ⟨by simp [PyData.showable], by simp [PyData.hasDict]⟩
  | .bool _, _ => ⟨by simp [PyData.showable], by simp [PyData.hasDict]⟩
  | .int i, h => by
    have h' : i.natAbs < 1000 := of_decide_eq_true h
    refine ⟨?_, by simp [PyData.hasDict]⟩
    show decide (i.natAbs.log2 < 1920) = true
    refine decide_eq_true ?_
    by_cases z : i.natAbs = 0
    · rw [z]; decide
    · exact Nat.lt_of_lt_of_le ((Nat.log2_lt z).mpr (Nat.lt_trans h' (by decide : 1000 < 2 ^ 10))) (by decide)
  | .str x, _ => ⟨by simp [PyData.showable], by simp [PyData.hasDict]⟩
  | .list ds, h => by
    have := rp_shA ds h
    exact ⟨by simpa [PyData.showable] using this.1, by simpa [PyData.hasDict] using this.2⟩
  | .tuple ds, h => by
    have := rp_shA ds h
    exact ⟨by simpa [PyData.showable] using this.1, by simpa [PyData.hasDict] using this.2⟩
  | .dict _, h => by cases h
theorem rp_shA : ∀ ds : List PyData, rpA ds = true → PyData.showableAll ds = true ∧ PyData.hasDictAll ds = false
  | [], _ => ⟨by simp [PyData.showableAll], by simp [PyData.hasDictAll]⟩
  | d :: ds, h => by
    have h' : (rpB d && rpA ds) = true := h
    rw [Bool.and_eq_true] at h'
    have a := rp_sh d h'.1
    have b := rp_shA ds h'.2
    exact ⟨by simp [PyData.showableAll, a.1, b.1], by simp [PyData.hasDictAll, a.2, b.2]⟩
end
/-- how long the text of a thing may be, by its depth -/
def bd (n : Nat) : Nat := if n = 0 then 22 else if n = 1 then 60 else if n = 2 then 200 else if n = 3 then 500 else if n = 4 then 2100 else if n = 5 then 26000 else 140000
theorem bd_mono {n m : Nat} (h : n ≤ m) : bd n ≤ bd m := by
  unfold bd
  repeat' split
  all_goals omega
/-- a made thing: small, shallow, its text not long -/
structure Part (n : Nat) (d : PyData) : Prop where
  sb : smB 12 d = true
  fn : Fine n d
  rp : rpB d = true
  ln : (PyData.shown d).length ≤ bd n
/-- .. and as it should be -/
structure Made (n : Nat) (p : PyData → Bool) (d : PyData) : Prop where
  ok : p d = true
  pt : Part n d
theorem fine_int {n : Nat} (i : Int) : Fine n (.int i) := ⟨rfl, by simp [PyData.canLay0], Nat.zero_le _⟩
theorem fine_bool {n : Nat} (b : Bool) : Fine n (.bool b) := ⟨rfl, by simp [PyData.canLay0], Nat.zero_le _⟩
theorem fine_none {n : Nat} : Fine n .none := ⟨rfl, by simp [PyData.canLay0], Nat.zero_le _⟩
theorem fine_up {n m : Nat} {d : PyData} (h : Fine n d) (l : n ≤ m) : Fine m d := ⟨h.nd, h.cl, Nat.le_trans h.dp l⟩
theorem Part.up {n m : Nat} {d : PyData} (h : Part n d) (l : n ≤ m) : Part m d := ⟨h.sb, fine_up h.fn l, h.rp, Nat.le_trans h.ln (bd_mono l)⟩
theorem part_int {i : Int} (h : i.natAbs < 1000) : Part 0 (.int i) := ⟨rfl, fine_int i, decide_eq_true h, by
  show (PySem.Str.ofString (toString i)).length ≤ 22
  have z : (toString i).length ≤ 3 + 1 := int_text_length_le10 (k := 3) (by decide) h
  rw [PySem.ofString_length]; omega⟩
theorem part_bool (b : Bool) : Part 0 (.bool b) := ⟨rfl, fine_bool b, rfl, by cases b <;> decide +kernel⟩
theorem part_none : Part 0 .none := ⟨rfl, fine_none, rfl, by decide +kernel⟩
theorem part_str {x : Str} (h : x.length ≤ 2) (c : x.cps.toList.all (fun c => decide (c < 200)) = true) : Part 0 (.str x) := by
  have c' : ∀ k ∈ x.cps.toList, k < 200 := fun k hk => of_decide_eq_true (List.all_eq_true.mp c k hk)
  refine ⟨decide_eq_true (by omega), ⟨rfl, ?_, Nat.zero_le _⟩, c, ?_⟩
  · show x.cps.all (· < 0x110000) = true
    rw [Array.all_eq_true']
    intro k hk
    have := c' k (Array.mem_toList_iff.mpr hk)
    exact decide_eq_true (by omega)
  · show (reprText x).length ≤ 22
    refine Nat.le_trans (PySem.StrLaws.reprText_len _ fun k hk => ?_) (by omega)
    have := c' k hk
    exact Nat.lt_trans this (by decide)
theorem fine_e {n : Nat} : Fine n (.str "") := ⟨rfl, by decide +kernel, Nat.zero_le _⟩
theorem shownA_map : ∀ ds : List PyData, PyData.shownAll ds = ds.map PyData.shown
  | [] => rfl
  | d :: ds => by
    show PyData.shown d :: PyData.shownAll ds = _
    rw [shownA_map ds]; rfl
theorem part_tup {n : Nat} {ds : List PyData} (k : Nat) (few : ds.length ≤ k) (hk : k ≤ 12) (hb : k * (bd n + 2) + 3 ≤ bd (n + 1)) (h : ∀ d, d ∈ ds → Part n d) : Part (n + 1) (.tuple ds) := by
  refine ⟨smB_tup.mpr ⟨Nat.le_trans few hk, fun d hd => (h d hd).sb⟩, fine_tup fun d hd => (h d hd).fn, rpA_mk fun d hd => (h d hd).rp, ?_⟩
  show (tupleText (PyData.shownAll ds)).length ≤ _
  rw [shownA_map]
  refine Nat.le_trans (tupText_le (b := bd n) fun t ht => ?_) ?_
  · obtain ⟨d, hd, rfl⟩ := List.mem_map.mp ht
    exact (h d hd).ln
  · rw [List.length_map]
    exact Nat.le_trans (Nat.add_le_add_right (Nat.mul_le_mul_right _ few) 3) hb
theorem Part.repr {n : Nat} {d : PyData} (h : Part n d) (hn : n ≤ 6) : ReprOk d := ⟨h.fn.nd, (rp_sh d h.rp).1, (rp_sh d h.rp).2, Nat.le_trans h.fn.dp (by omega), Nat.le_trans h.ln (Nat.le_trans (bd_mono hn) (by decide))⟩
theorem isNum_pos {a : Int} (h : 0 ≤ a) : isNum 0 (.int a) = true := by
  show _ = true
  simp [isNum]
  exact h
theorem edge_made {m : Int} {d : PyData} (h : EdgeM m d) (hm : m ≤ 10) : Made 1 isEdge d := by
  obtain ⟨a, b, rfl, h0, h1⟩ := h
  refine ⟨?_, part_tup 2 (Nat.le_refl _) (by decide) (by decide) ?_⟩
  · show (isNum 0 (.int a) && isB (.bool b)) = true
    rw [isNum_pos h0]; rfl
  · intro d hd
    rcases List.mem_cons.mp hd with rfl | hd
    · exact part_int (by omega)
    · obtain rfl := List.mem_singleton.mp hd
      exact part_bool b
/-- what a limit may speak of: a letter of the machine, or the begin -/
def XL (L : Str) (x : PyData) : Prop := x = .str "" ∨ ∃ c : Nat, x = .str ⟨#[c]⟩ ∧ 97 ≤ c ∧ c ≤ 122 ∧ FD.inS ⟨#[c]⟩ L = true
theorem xl_made {L : Str} {x : PyData} (h : XL L x) : (letOf L x || isE x) = true ∧ Part 0 x := by
  rcases h with rfl | ⟨c, rfl, c0, c1, hi⟩
  · refine ⟨?_, part_str (by decide) (by decide +kernel)⟩
    have : isE (.str "") = true := by decide +kernel
    rw [this, Bool.or_true]
  · refine ⟨?_, part_str (Nat.le_of_ble_eq_true rfl) (by simp; omega)⟩
    have : letOf L (.str ⟨#[c]⟩) = true := by
      show (decide (97 ≤ c ∧ c ≤ 122) && FD.inS ⟨#[c]⟩ L) = true
      rw [hi, decide_eq_true ⟨c0, c1⟩]; rfl
    rw [this]; rfl
theorem isE_let (c : Nat) : isE (.str ⟨#[c]⟩) = false := by
  show ((⟨#[c]⟩ : Str) == "") = false
  rw [beq_eq_false_iff_ne]
  intro h
  have e0 : (Str.ofString "").cps.size = 0 := by decide +kernel
  have h1 : (#[c] : Array Nat).size = (Str.ofString "").cps.size := congrArg (fun y : Str => y.cps.size) h
  rw [e0] at h1
  simp at h1
theorem lim_made {L : Str} {x l m : PyData} (hx : XL L x) (hl : Made 1 isEdge l) (hm : m = .none ∨ Made 1 isEdge m) : Made 2 (isLim L) (.tuple [x, l, m]) := by
  obtain ⟨x1, x2⟩ := xl_made hx
  refine ⟨?_, part_tup 3 (Nat.le_refl _) (by decide) (by decide) ?_⟩
  · have nl : FD.isNone l = false := by
      have := hl.ok
      cases l with
      | none => cases this
      | _ => rfl
    show ((letOf L x || isE x) && (if FD.isNone l then FD.isNone m && !isE x else isEdge l && (FD.isNone m || isEdge m))) = true
    rw [x1, nl, hl.ok]
    rcases hm with rfl | hm
    · rfl
    · rw [hm.ok, Bool.or_true]; rfl
  · intro d hd
    rcases List.mem_cons.mp hd with rfl | hd
    · exact x2.up (Nat.zero_le _)
    · rcases List.mem_cons.mp hd with rfl | hd
      · exact hl.pt
      · obtain rfl := List.mem_singleton.mp hd
        rcases hm with rfl | hm
        · exact part_none.up (Nat.zero_le _)
        · exact hm.pt
theorem never_made {L : Str} {c : Nat} (hx : XL L (.str ⟨#[c]⟩)) : Made 2 (isLim L) (.tuple [.str ⟨#[c]⟩, .none, .none]) := by
  obtain ⟨x1, x2⟩ := xl_made hx
  refine ⟨?_, part_tup 3 (Nat.le_refl _) (by decide) (by decide) ?_⟩
  · show ((letOf L (.str ⟨#[c]⟩) || isE (.str ⟨#[c]⟩)) && (true && !isE (.str ⟨#[c]⟩))) = true
    rw [x1, isE_let]; rfl
  · intro d hd
    rcases List.mem_cons.mp hd with rfl | hd
    · exact x2.up (Nat.zero_le _)
    · rcases List.mem_cons.mp hd with rfl | hd
      · exact part_none.up (Nat.zero_le _)
      · obtain rfl := List.mem_singleton.mp hd
        exact part_none.up (Nat.zero_le _)
abbrev preML : List PyData → Prop := fun ds => ∃ L : Str, ds = [.str L, .int 2] ∧ (L = "a" ∨ L = "ab")
abbrev postML : List PyData → PyData → Prop := fun ds d => ∃ (L : Str) (m : PyData), ds = [.str L, m] ∧ Made 2 (isLim L) d
theorem xl_sign {L : Str} (h : L = "a" ∨ L = "ab") : ∀ d, d ∈ FD.signs L → XL L d := by
  rintro d hd
  obtain ⟨c, hc, rfl⟩ := List.mem_map.mp hd
  rcases h with rfl | rfl
  · have e : (Str.ofString "a").cps.toList = [97] := by decide +kernel
    rw [e] at hc
    obtain rfl := List.mem_singleton.mp hc
    exact .inr ⟨97, rfl, by decide, by decide, by decide +kernel⟩
  · have e : (Str.ofString "ab").cps.toList = [97, 98] := by decide +kernel
    rw [e] at hc
    rcases List.mem_cons.mp hc with rfl | hc
    · exact .inr ⟨97, rfl, by decide, by decide, by decide +kernel⟩
    · obtain rfl := List.mem_singleton.mp hc
      exact .inr ⟨98, rfl, by decide, by decide, by decide +kernel⟩
theorem len_L {L : Str} (h : L = "a" ∨ L = "ab") : 1 ≤ L.length ∧ L.length ≤ 2 ∧ (FD.signs L).length = L.length := by
  rcases h with rfl | rfl <;> exact ⟨by decide +kernel, by decide +kernel, by simp [FD.signs]; rfl⟩
section
variable {P : Program} {w : World} {K : PySem.W.Frag} {mg : Str → Option Value} {base : Heap} {f : Addr} {fd : FuncData}
theorem ok_mklim (F : L2.Fun K "_law_limit" "_law_limit" sMkLim f fd) (bi : Bi mg) (c1 : Cal P w K mg base 2 "_law_take" ["pile", "size"] (spP 1 preT postT)) (c2 : Cal P w K mg base 3 "_law_end" ["pile", "m"] (spP 1 preME postME)) :
    FnG P w K mg base 4 f fd ["pile", "letters", "m"] (spP 2 preML postML) := by
  refine fnP F scsMkLim (by simp) _ _ fun cdv A outer s H hg hr => ?_
  refine' ⟨_, ?h1, ?h2⟩
  case h1 =>
    have km : KMark K := ⟨⟩
    have nd : (["pile", "letters", "m", "x", "least", "most"] : List Str).Nodup := by decide +kernel
    have : (["pile", "letters", "m", "x", "least", "most"] : List Str)[0]? = some ("pile" : Str) := rfl
    have : (["pile", "letters", "m", "x", "least", "most"] : List Str)[1]? = some ("letters" : Str) := rfl
    have : (["pile", "letters", "m", "x", "least", "most"] : List Str)[2]? = some ("m" : Str) := rfl
    have : (["pile", "letters", "m", "x", "least", "most"] : List Str)[3]? = some ("x" : Str) := rfl
    have : (["pile", "letters", "m", "x", "least", "most"] : List Str)[4]? = some ("least" : Str) := rfl
    have : (["pile", "letters", "m", "x", "least", "most"] : List Str)[5]? = some ("most" : Str) := rfl
    fail "fTop"
  case h2 =>
    rintro p ds hl ⟨L, rfl, hL⟩
    show EvS K _ [some (.pile p), some (.dat (.str L)), some (.dat (.int 2)), none, none, none] _
    obtain ⟨l1, l2, l3⟩ := len_L hL
    have sl : L.length ≤ sizeLine := Nat.le_trans l2 (by decide)
    have big : (8 : Nat) ≤ sizeLine := by decide
    refine seq_cut (fun e1 => ∃ x, XL L x ∧ e1 = [some (.pile p), some (.dat (.str L)), some (.dat (.int 2)), some (.dat x), none, none]) ?_ ?_
    · fail "z"
      refine rc_listS sl ?_
      refine rd_plusL (by rw [List.length_singleton, l3]; omega) ?_
      fail "z"
      refine rc_listS sl ?_
      refine rd_plusL (by rw [List.length_append, List.length_singleton, l3]; omega) ?_
      generalize hxs : [PyData.str (Str.ofString "")] ++ FD.signs L ++ FD.signs L = xs
      have xl : xs.length = 1 + 2 * L.length := by rw [← hxs, List.length_append, List.length_append, List.length_singleton, l3]; omega
      have xm : ∀ d, d ∈ xs → XL L d := fun d hd => by
        rw [← hxs] at hd
        rcases List.mem_append.mp hd with hd | hd
        · rcases List.mem_append.mp hd with hd | hd
          · exact .inl (List.mem_singleton.mp hd)
          · exact xl_sign hL d hd
        · exact xl_sign hL d hd
      clear hxs
      fail "z"
      refine rc_lenS sl ?_
      fail "z"
      refine ⟨⟨_, rfl, by omega, by omega⟩, ?_⟩
      rintro y ⟨n', z, e, rfl, z0, z1⟩
      cases e
      obtain ⟨j, rfl⟩ := Int.eq_ofNat_of_zero_le z0
      have jl : j < xs.length := by omega
      refine rd_ixL (d := xs[j]) (at_nat (List.getElem?_eq_getElem jl)) ?_
      fail "z"
      exact ⟨_, xm _ (List.getElem_mem jl), rfl⟩
    rintro e ⟨x, hx, rfl⟩
    refine seq_cut (fun e1 => e1 = [some (.pile p), some (.dat (.str L)), some (.dat (.int 2)), some (.dat x), none, none]) ?_ ?_
    · have hx' := hx
      rcases hx with rfl | ⟨c, rfl, _⟩
      · refine es_if (eb_and (ev_test (ev_op (ev_var rfl (ev_str (rd_neS ⟨_, rfl, fun h => ?_, fun h => ⟨(fun h => Bool.noConfusion h), fun _ => es_next rfl⟩⟩))))))
        exact absurd h (by decide +kernel)
      · refine es_if (eb_and (ev_test (ev_op (ev_var rfl (ev_str (rd_neS ⟨_, rfl, fun h => ?_, fun h => ⟨(fun h => Bool.noConfusion h), fun _ => es_next rfl⟩⟩))))))
        fail "z"
        refine ⟨⟨4, rfl, by decide, by decide⟩, ?_⟩
        rintro y ⟨n', z, e, rfl, z0, z1⟩
        cases e
        fail "z"
        · exact ⟨L, _, rfl, never_made hx'⟩
        · rfl
    rintro e rfl
    refine seq_cut (fun e1 => ∃ l, EdgeM 2 l ∧ e1 = [some (.pile p), some (.dat (.str L)), some (.dat (.int 2)), some (.dat x), some (.dat l), none]) ?_ ?_
    · fail "z"
      refine ⟨⟨2, rfl, by decide, by decide⟩, ?_⟩
      rintro y ⟨m, e, hy⟩
      cases e
      fail "z"
      exact ⟨_, hy, rfl⟩
    rintro e ⟨l, hl2, rfl⟩
    refine seq_cut (fun e1 => e1 = [some (.pile p), some (.dat (.str L)), some (.dat (.int 2)), some (.dat x), some (.dat l), none]) ?_ ?_
    · fail "z"
      refine ⟨⟨2, rfl, by decide, by decide⟩, ?_⟩
      rintro y ⟨n', z, e, rfl, z0, z1⟩
      cases e
      fail "z"
      · exact ⟨L, _, rfl, lim_made hx (edge_made hl2 (by decide)) (.inl rfl)⟩
      · rfl
    rintro e rfl
    refine seq_cut (fun e1 => e1 = [some (.pile p), some (.dat (.str L)), some (.dat (.int 2)), some (.dat x), some (.dat l), none]) ?_ ?_
    · fail "z"
      refine ⟨⟨4, rfl, by decide, by decide⟩, ?_⟩
      rintro y ⟨n', z, e, rfl, z0, z1⟩
      cases e
      fail "z"
      · refine ⟨⟨2, rfl, by decide, by decide⟩, ?_⟩
        rintro y ⟨m, e, hy⟩
        cases e
        fail "z"
        exact ⟨L, _, rfl, lim_made hx (edge_made hl2 (by decide)) (.inr (edge_made hy (by decide)))⟩
      · rfl
    rintro e rfl
    refine seq_cut (fun e1 => ∃ y, EdgeM 10 y ∧ e1 = [some (.pile p), some (.dat (.str L)), some (.dat (.int 2)), some (.dat x), some (.dat l), some (.dat y)]) ?_ ?_
    · obtain ⟨a, b, rfl, a0, a2⟩ := hl2
      fail "z"
      refine ⟨⟨_, rfl, by omega, by omega⟩, ?_⟩
      rintro y ⟨n', z, e, rfl, z0, z1⟩
      cases e
      fail "z"
      refine ⟨⟨2, rfl, by decide, by decide⟩, ?_⟩
      rintro y ⟨n', z', e, rfl, z0', z1'⟩
      cases e
      fail "z"
      exact ⟨_, ⟨_, _, rfl, by omega, by omega⟩, rfl⟩
    rintro e ⟨y, hy, rfl⟩
    fail "z"
    exact ⟨L, _, rfl, lim_made hx (edge_made hl2 (by decide)) (.inr (edge_made hy (by decide)))⟩
end


abbrev sMkLims : Stmt := tp 21
theorem scsMkLims : FnScope ["pile", "letters", "m", "j"] ["pile", "letters", "m"] (defScope sMkLims) := ⟨rfl, rfl, rfl, by decide +kernel, rfl, by decide +kernel, by decide +kernel⟩
abbrev sMkMach : Stmt := tp 22
theorem scsMkMach : FnScope ["pile", "letters", "m", "most", "many", "steps", "j", "s", "a", "starts"] ["pile", "letters", "m", "most"] (defScope sMkMach) := ⟨rfl, rfl, rfl, by decide +kernel, rfl, by decide +kernel, by decide +kernel⟩
theorem made_all {n k : Nat} {p : PyData → Bool} {ds : List PyData} (few : ds.length ≤ k) (hk : k ≤ 12) (hb : k * (bd n + 2) + 3 ≤ bd (n + 1)) (h : ∀ d, d ∈ ds → Made n p d) : Part (n + 1) (.tuple ds) ∧ ds.all p = true :=
  ⟨part_tup k few hk hb fun d hd => (h d hd).pt, List.all_eq_true.mpr fun d hd => (h d hd).ok⟩
abbrev postMLs : List PyData → PyData → Prop := fun ds d => ∃ (L : Str) (m : PyData) (ls : List PyData), ds = [.str L, m] ∧ d = .tuple ls ∧ ls.length ≤ 2 ∧ ∀ l, l ∈ ls → Made 2 (isLim L) l
section
variable {P : Program} {w : World} {K : PySem.W.Frag} {mg : Str → Option Value} {base : Heap} {f : Addr} {fd : FuncData}
theorem ok_mklims (F : L2.Fun K "_law_limits" "_law_limits" sMkLims f fd) (bi : Bi mg) (c1 : Cal P w K mg base 2 "_law_take" ["pile", "size"] (spP 1 preT postT)) (c2 : Cal P w K mg base 4 "_law_limit" ["pile", "letters", "m"] (spP 2 preML postML)) :
    FnG P w K mg base 5 f fd ["pile", "letters", "m"] (spP 2 preML postMLs) := by
  refine fnP F scsMkLims (by simp) _ _ fun cdv A outer s H hg hr => ?_
  refine' ⟨_, ?h1, ?h2⟩
  case h1 =>
    have km : KMark K := ⟨⟩
    have nd : (["pile", "letters", "m", "j"] : List Str).Nodup := by decide +kernel
    have : (["pile", "letters", "m", "j"] : List Str)[0]? = some ("pile" : Str) := rfl
    have : (["pile", "letters", "m", "j"] : List Str)[1]? = some ("letters" : Str) := rfl
    have : (["pile", "letters", "m", "j"] : List Str)[2]? = some ("m" : Str) := rfl
    have : (["pile", "letters", "m", "j"] : List Str)[3]? = some ("j" : Str) := rfl
    fail "fTop"
  case h2 =>
    rintro p ds hl ⟨L, rfl, hL⟩
    show EvS K _ [some (.pile p), some (.dat (.str L)), some (.dat (.int 2)), none] _
    refine es_ret (ev_cb (ea_cons ?_))
    refine ev_lc (ei_rng1 (ea_cons ?_))
    fail "z"
    refine ⟨⟨4, rfl, by decide, by decide⟩, ?_⟩
    rintro y ⟨n', z, e, rfl, z0, z1⟩
    cases e
    have hk : ∃ k : Int, L2.atI [PyData.int 0, .int 1, .int 1, .int 2] z = some (.int k) ∧ 0 ≤ k ∧ k ≤ 2 := by
      have : z = 0 ∨ z = 1 ∨ z = 2 ∨ z = 3 := by omega
      rcases this with rfl | rfl | rfl | rfl
      · exact ⟨0, rfl, by decide, by decide⟩
      · exact ⟨1, rfl, by decide, by decide⟩
      · exact ⟨1, rfl, by decide, by decide⟩
      · exact ⟨2, rfl, by decide, by decide⟩
    obtain ⟨k, hk, k0, k2⟩ := hk
    refine rd_ixL hk (ea_nil ⟨k, rfl, ⟨by omega, by omega⟩, fun i e acc => e = [some (.pile p), some (.dat (.str L)), some (.dat (.int 2)), none] ∧ acc.length = i ∧ i ≤ k.toNat ∧ ∀ l, l ∈ acc → Made 2 (isLim L) l,
      ⟨rfl, rfl, Nat.zero_le _, fun _ h => nomatch h⟩, ?_, ?_⟩)
    · rintro i d e acc hd ⟨rfl, h1, h2, h3⟩
      obtain ⟨hi, rfl⟩ := nums_get hd
      refine ⟨Nat.lt_of_le_of_lt (show acc.length ≤ 2 by omega) (by decide), eb_yes ⟨fun _ => ?_, fun h => Bool.noConfusion h⟩⟩
      fail "z"
      refine ⟨⟨L, rfl, hL⟩, ?_⟩
      rintro y ⟨L', m', e, hy⟩
      cases e
      refine ⟨rfl, by simp [h1], hi, fun l hl => ?_⟩
      rcases List.mem_append.mp hl with hl | hl
      · exact h3 l hl
      · rw [List.mem_singleton.mp hl]; exact hy
    · rintro e acc ⟨rfl, h1, h2, h3⟩
      fail "z"
      exact ⟨L, _, acc, rfl, rfl, by omega, h3⟩
/-- a made step -/
def StM (L : Str) (m : Int) (d : PyData) : Prop := Made 4 (isStep L m) d
theorem lof_made {L : Str} {x : PyData} (h : x ∈ FD.signs L) (hL : L = "a" ∨ L = "ab") : letOf L x = true ∧ Part 0 x := by
  have q := xl_sign hL x h
  rcases q with rfl | ⟨c, rfl, c0, c1, hi⟩
  · exfalso
    obtain ⟨c, _, e⟩ := List.mem_map.mp h
    have := isE_let c
    rw [e] at this
    exact absurd this (by decide +kernel)
  · refine ⟨?_, part_str (Nat.le_of_ble_eq_true rfl) (by simp; omega)⟩
    show (decide (97 ≤ c ∧ c ≤ 122) && FD.inS ⟨#[c]⟩ L) = true
    rw [hi, decide_eq_true ⟨c0, c1⟩]; rfl
theorem isState_of {i m : Int} (h0 : 0 ≤ i) (h1 : i < m) : isState m (.int i) = true := by
  show (isNum 0 (.int i) && decide (i < m)) = true
  rw [isNum_pos h0, decide_eq_true h1]; rfl
theorem step_made {L : Str} {m s t : Int} {a : PyData} {ls : List PyData} (hL : L = "a" ∨ L = "ab") (s0 : 0 ≤ s) (s1 : s < m) (m4 : m ≤ 4) (t0 : 0 ≤ t) (t1 : t < m) (ha : a ∈ FD.signs L) (few : ls.length ≤ 2) (hl : ∀ l, l ∈ ls → Made 2 (isLim L) l) :
    Made 4 (isStep L m) (.tuple [.int s, a, .tuple ls, .int t]) := by
  obtain ⟨a1, a2⟩ := lof_made ha hL
  obtain ⟨b1, b3⟩ := made_all few (by decide) (by decide) hl
  refine ⟨?_, part_tup 4 (Nat.le_refl _) (by decide) (by decide) ?_⟩
  · show (isState m (.int s) && (letOf L a && (isState m (.int t) && ls.all (isLim L)))) = true
    rw [isState_of s0 s1, isState_of t0 t1, a1, b3]; rfl
  · intro d hd
    rcases List.mem_cons.mp hd with rfl | hd
    · exact (part_int (by omega)).up (Nat.zero_le _)
    · rcases List.mem_cons.mp hd with rfl | hd
      · exact a2.up (Nat.zero_le _)
      · rcases List.mem_cons.mp hd with rfl | hd
        · exact b1
        · obtain rfl := List.mem_singleton.mp hd
          exact (part_int (by omega)).up (Nat.zero_le _)
abbrev preMM : List PyData → Prop := fun ds => ∃ L : Str, ds = [.str L, .int 2, .int 4] ∧ (L = "a" ∨ L = "ab")
abbrev postMM : List PyData → PyData → Prop := fun _ d => ∃ es, d = .tuple es ∧ Made 6 isMach d
theorem sts_made {m : Int} {ts : List Nat} (m4 : m ≤ 4) (h1 : ts.Pairwise (· < ·)) (h2 : ∀ t, t ∈ ts → (t : Int) < m) (few : ts.length ≤ 12) : isSts m (.tuple (ts.map fun t : Nat => .int (t : Int))) = true ∧ Part 5 (.tuple (ts.map fun t : Nat => PyData.int (t : Int))) := by
  refine ⟨?_, part_tup 12 (by rw [List.length_map]; exact few) (by decide) (by decide) fun d hd => ?_⟩
  · show ((ts.map fun t : Nat => PyData.int (t : Int)).all (isState m) && rising ((ts.map fun t : Nat => PyData.int (t : Int)).map valI)) = true
    have e : (ts.map fun t : Nat => PyData.int (t : Int)).map valI = ts.map fun t : Nat => (t : Int) := by rw [List.map_map]; rfl
    rw [e, (rising_pw ts).mpr h1, Bool.and_true, List.all_map]
    exact List.all_eq_true.mpr fun t ht => isState_of (by omega) (h2 t ht)
  · obtain ⟨t, ht, rfl⟩ := List.mem_map.mp hd
    have := h2 t ht
    exact (part_int (by omega)).up (Nat.zero_le _)
theorem asc_snoc {ts : List Nat} {i : Nat} (h1 : ts.Pairwise (· < ·)) (h2 : ∀ t, t ∈ ts → t < i) : (ts ++ [i]).Pairwise (· < ·) ∧ ∀ t, t ∈ ts ++ [i] → t < i + 1 := by
  refine ⟨List.pairwise_append.mpr ⟨h1, List.pairwise_singleton .., fun a ha b hb => by rw [List.mem_singleton.mp hb]; exact h2 a ha⟩, fun t ht => ?_⟩
  rcases List.mem_append.mp ht with h | h
  · have := h2 t h; omega
  · rw [List.mem_singleton.mp h]; omega
theorem mach_made {L : Str} {m : Int} {st en : List Nat} {sp : List PyData} (hL : L = "a" ∨ L = "ab") (m0 : 1 ≤ m) (m4 : m ≤ 4) (s1 : st.Pairwise (· < ·)) (s2 : ∀ t, t ∈ st → (t : Int) < m) (s3 : st.length ≤ 12)
    (e1 : en.Pairwise (· < ·)) (e2 : ∀ t, t ∈ en → (t : Int) < m) (e3 : en.length ≤ 12) (few : sp.length ≤ 12) (hp : ∀ d, d ∈ sp → Made 4 (isStep L m) d) :
    Made 6 isMach (.tuple [.str L, .int m, .tuple (st.map fun t : Nat => .int (t : Int)), .tuple (en.map fun t : Nat => .int (t : Int)), .tuple sp]) := by
  obtain ⟨a1, a2⟩ := sts_made m4 s1 s2 s3
  obtain ⟨b1, b2⟩ := sts_made m4 e1 e2 e3
  obtain ⟨c1, c3⟩ := made_all few (Nat.le_refl 12) (by decide) hp
  refine ⟨?_, part_tup 5 (Nat.le_refl _) (by decide) (by decide) ?_⟩
  · have l1 : isLets (.str L) = true := by rcases hL with rfl | rfl <;> decide +kernel
    have n1 : isNum 1 (.int m) = true := by simp [isNum]; exact m0
    show (isLets (.str L) && (isNum 1 (.int m) && (true && (isSts m (.tuple _) && (isSts m (.tuple _) && sp.all (isStep L m)))))) = true
    rw [l1, n1, a1, b1, c3]; rfl
  · have l2 : Part 0 (.str L) := by rcases hL with rfl | rfl <;> exact part_str (by decide +kernel) (by decide +kernel)
    intro d hd
    rcases List.mem_cons.mp hd with rfl | hd
    · exact l2.up (Nat.zero_le _)
    · rcases List.mem_cons.mp hd with rfl | hd
      · exact (part_int (by omega)).up (Nat.zero_le _)
      · rcases List.mem_cons.mp hd with rfl | hd
        · exact a2
        · rcases List.mem_cons.mp hd with rfl | hd
          · exact b2
          · obtain rfl := List.mem_singleton.mp hd
            exact c1
theorem ok_mkmach (F : L2.Fun K "_law_machine" "_law_machine" sMkMach f fd) (bi : Bi mg) (c1 : Cal P w K mg base 2 "_law_take" ["pile", "size"] (spP 1 preT postT)) (c2 : Cal P w K mg base 5 "_law_limits" ["pile", "letters", "m"] (spP 2 preML postMLs)) :
    FnG P w K mg base 6 f fd ["pile", "letters", "m", "most"] (spP 3 preMM postMM) := by
  refine fnP F scsMkMach (by simp) _ _ fun cdv A outer s H hg hr => ?_
  refine' ⟨_, ?h1, ?h2⟩
  case h1 =>
    have km : KMark K := ⟨⟩
    have nd : (["pile", "letters", "m", "most", "many", "steps", "j", "s", "a", "starts"] : List Str).Nodup := by decide +kernel
    have : (["pile", "letters", "m", "most", "many", "steps", "j", "s", "a", "starts"] : List Str)[0]? = some ("pile" : Str) := rfl
    have : (["pile", "letters", "m", "most", "many", "steps", "j", "s", "a", "starts"] : List Str)[1]? = some ("letters" : Str) := rfl
    have : (["pile", "letters", "m", "most", "many", "steps", "j", "s", "a", "starts"] : List Str)[2]? = some ("m" : Str) := rfl
    have : (["pile", "letters", "m", "most", "many", "steps", "j", "s", "a", "starts"] : List Str)[3]? = some ("most" : Str) := rfl
    have : (["pile", "letters", "m", "most", "many", "steps", "j", "s", "a", "starts"] : List Str)[4]? = some ("many" : Str) := rfl
    have : (["pile", "letters", "m", "most", "many", "steps", "j", "s", "a", "starts"] : List Str)[5]? = some ("steps" : Str) := rfl
    have : (["pile", "letters", "m", "most", "many", "steps", "j", "s", "a", "starts"] : List Str)[6]? = some ("j" : Str) := rfl
    have : (["pile", "letters", "m", "most", "many", "steps", "j", "s", "a", "starts"] : List Str)[7]? = some ("s" : Str) := rfl
    have : (["pile", "letters", "m", "most", "many", "steps", "j", "s", "a", "starts"] : List Str)[8]? = some ("a" : Str) := rfl
    have : (["pile", "letters", "m", "most", "many", "steps", "j", "s", "a", "starts"] : List Str)[9]? = some ("starts" : Str) := rfl
    fail "fTop"
  case h2 =>
    rintro p ds hl ⟨L, rfl, hL⟩
    show EvS K _ [some (.pile p), some (.dat (.str L)), some (.dat (.int 2)), some (.dat (.int 4)), none, none, none, none, none, none] _
    obtain ⟨l1, l2, l3⟩ := len_L hL
    have sl : L.length ≤ sizeLine := Nat.le_trans l2 (by decide)
    have big : (100 : Nat) ≤ sizeLine := by decide
    refine seq_cut (fun e1 => ∃ m pe, 1 ≤ m ∧ m ≤ 4 ∧ e1 = [some (.pile p), some (.dat (.str L)), some (.dat (.int 2)), some (.dat (.int 4)), some (.dat (.int m)), some (.own pe []), none, none, none, none]) ?_ ?_
    · fail "z"
      refine ⟨⟨4, rfl, by decide, by decide⟩, ?_⟩
      rintro y ⟨n', z, e, rfl, z0, z1⟩
      cases e
      fail "z"
      intro pe
      exact ⟨1 + z, pe, by omega, by omega, rfl⟩
    rintro e ⟨m, pe, m1, m4, rfl⟩
    refine seq_cut (fun e1 => ∃ sts a b c, sts.length ≤ 12 ∧ (∀ d, d ∈ sts → Made 4 (isStep L m) d) ∧ e1 = [some (.pile p), some (.dat (.str L)), some (.dat (.int 2)), some (.dat (.int 4)), some (.dat (.int m)), some (.own pe sts), a, b, c, none]) ?_ ?_
    · refine es_for (ei_rng1 (ea_cons ?_))
      fail "z"
      refine ⟨⟨_, rfl, by omega, by omega⟩, ?_⟩
      rintro y ⟨n', z, e, rfl, z0, z1⟩
      cases e
      fail "z"
      refine ⟨⟨by omega, by omega⟩, fun i e => ∃ sts a b c, sts.length = i ∧ i ≤ (1 + z).toNat ∧ (∀ d, d ∈ sts → Made 4 (isStep L m) d) ∧
        e = [some (.pile p), some (.dat (.str L)), some (.dat (.int 2)), some (.dat (.int 4)), some (.dat (.int m)), some (.own pe sts), a, b, c, none], ⟨[], none, none, none, rfl, Nat.zero_le _, (fun _ h => nomatch h), rfl⟩, ?_, ?_⟩
      · rintro i d e hd ⟨sts, a, b, c, h1, h2, h3, rfl⟩
        obtain ⟨hi, rfl⟩ := nums_get hd
        have big : (100 : Nat) ≤ sizeLine := by decide
        refine eg_name ?_
        refine seq_cut (fun e1 => ∃ (s : Int) (x : PyData), 0 ≤ s ∧ s < m ∧ x ∈ FD.signs L ∧ e1 = [some (.pile p), some (.dat (.str L)), some (.dat (.int 2)), some (.dat (.int 4)), some (.dat (.int m)), some (.own pe sts), some (.dat (.int (0 + (i : Int)))), some (.dat (.int s)), some (.dat x), none]) ?_ ?_
        · fail "z"
          refine ⟨⟨m, rfl, by omega, by omega⟩, ?_⟩
          rintro y ⟨n', z5, e, rfl, z50, z51⟩
          cases e
          fail "z"
          have pick : ∃ s : Int, L2.atI [PyData.int z5, .int (0 + (i : Int))] (if decide (0 + (i : Int) < m) = true then 1 else 0) = some (.int s) ∧ 0 ≤ s ∧ s < m := by
            by_cases q : 0 + (i : Int) < m
            · rw [decide_eq_true q]; exact ⟨_, rfl, by omega, q⟩
            · rw [decide_eq_false q]; exact ⟨_, rfl, z50, z51⟩
          obtain ⟨s, hs, s0, s1⟩ := pick
          refine rd_ixL hs ?_
          fail "z"
          refine rc_lenS sl ?_
          fail "z"
          refine ⟨⟨_, rfl, by omega, by omega⟩, ?_⟩
          rintro y ⟨n', z6, e, rfl, z60, z61⟩
          cases e
          obtain ⟨j, rfl⟩ := Int.eq_ofNat_of_zero_le z60
          have jl : j < L.cps.toList.length := by
            have : L.cps.toList.length = L.length := Array.length_toList
            omega
          refine rd_ixS (c := L.cps.toList[j]) sl (atI_nat (List.getElem?_eq_getElem jl)) ?_
          fail "z"
          exact ⟨_, _, rfl, s, _, s0, s1, List.mem_map.mpr ⟨_, List.getElem_mem jl, rfl⟩, rfl⟩
        rintro e ⟨s, x, s0, s1, hx, rfl⟩
        refine es_append (ds0 := sts) rfl ?_
        have lims : EvE K (tIf (tTest (tOp rGt (tVar 6) (tC (V.int 0)))) (tCB (callOf (spP 2 preML postMLs)) (tCons (tVar 0) (tCons (tVar 1) (tCons (tVar 2) tNil)))) (tTup tNil))
            [some (.pile p), some (.dat (.str L)), some (.dat (.int 2)), some (.dat (.int 4)), some (.dat (.int m)), some (.own pe sts), some (.dat (.int (0 + (i : Int)))), some (.dat (.int s)), some (.dat x), none]
            fun e d => e = [some (.pile p), some (.dat (.str L)), some (.dat (.int 2)), some (.dat (.int 4)), some (.dat (.int m)), some (.own pe sts), some (.dat (.int (0 + (i : Int)))), some (.dat (.int s)), some (.dat x), none] ∧
              ∃ ls, d = .tuple ls ∧ ls.length ≤ 2 ∧ ∀ l, l ∈ ls → Made 2 (isLim L) l := by
          fail "z"
          · refine ⟨⟨L, rfl, hL⟩, ?_⟩
            rintro y ⟨L', m', ls, e, rfl, few, hls⟩
            cases e
            exact ⟨rfl, ls, rfl, few, hls⟩
          · exact fun _ h => nomatch h
        refine ev_tup (ea_cons (ev_var rfl (ea_cons (ev_var rfl (ea_cons (lims.imp ?_))))))
        rintro e d ⟨rfl, ls, rfl, few, hls⟩
        fail "z"
        refine ⟨⟨m, rfl, by omega, by omega⟩, ?_⟩
        rintro y ⟨n', z7, e, rfl, z70, z71⟩
        cases e
        fail "z"
        refine ⟨Nat.lt_of_lt_of_le (show sts.length < 100 by omega) big, sts ++ [_], _, _, _, ?_, hi, ?_, rfl⟩
        · rw [List.length_append, List.length_singleton, h1]
        · intro d hd
          rcases List.mem_append.mp hd with hd | hd
          · exact h3 d hd
          · rw [List.mem_singleton.mp hd]
            exact step_made hL s0 s1 m4 z70 z71 hx few hls
      · rintro e ⟨sts, a, b, c, h1, h2, h3, rfl⟩
        exact ⟨sts, a, b, c, by omega, h3, rfl⟩
    rintro e ⟨sts, a, b, c, few, hst, rfl⟩
    have pick : ∀ (tt : TT) (a b c : Option Sl) (_ : ∀ (k : Int) (P : En → Bool → Prop), 0 ≤ k → (∀ q, P [some (.pile p), some (.dat (.str L)), some (.dat (.int 2)), some (.dat (.int 4)), some (.dat (.int m)), some (.own pe sts), a, some (.dat (.int k)), b, c] q) →
          EvB K tt [some (.pile p), some (.dat (.str L)), some (.dat (.int 2)), some (.dat (.int 4)), some (.dat (.int m)), some (.own pe sts), a, some (.dat (.int k)), b, c] P) (v : Option Sl),
        EvE K (tLc (iRng1 (tCons (tVar 4) tNil)) (gName 7) tt (tVar 7) [7]) [some (.pile p), some (.dat (.str L)), some (.dat (.int 2)), some (.dat (.int 4)), some (.dat (.int m)), some (.own pe sts), a, v, b, c]
          fun e d => e = [some (.pile p), some (.dat (.str L)), some (.dat (.int 2)), some (.dat (.int 4)), some (.dat (.int m)), some (.own pe sts), a, none, b, c] ∧
            ∃ ts : List Nat, d = .list (ts.map fun t : Nat => .int (t : Int)) ∧ ts.Pairwise (· < ·) ∧ (∀ t, t ∈ ts → (t : Int) < m) ∧ ts.length ≤ 12 := fun tt a b c hq v => by
      refine ev_lc (ei_rng1 (ea_cons (ev_var rfl (ea_nil ⟨m, rfl, ⟨by omega, by omega⟩, fun i e acc => ∃ ts : List Nat, acc = ts.map (fun t : Nat => PyData.int (t : Int)) ∧ ts.Pairwise (· < ·) ∧ (∀ t, t ∈ ts → t < i) ∧ ts.length ≤ i ∧ i ≤ m.toNat ∧
        e = [some (.pile p), some (.dat (.str L)), some (.dat (.int 2)), some (.dat (.int 4)), some (.dat (.int m)), some (.own pe sts), a, none, b, c], ⟨[], rfl, .nil, (fun _ h => nomatch h), Nat.le_refl _, Nat.zero_le _, rfl⟩, ?_, ?_⟩))))
      · rintro i d e acc hd ⟨ts, rfl, h1, h2, h3, h4, rfl⟩
        obtain ⟨hi, rfl⟩ := nums_get hd
        refine ⟨by rw [List.length_map]; exact Nat.lt_of_lt_of_le (show ts.length < 100 by omega) big, hq _ _ (by omega) fun q => ⟨fun _ => ?_, fun _ => ?_⟩⟩
        · refine ev_var rfl ?_
          obtain ⟨k1, k2⟩ := asc_snoc h1 h2
          refine ⟨ts ++ [i], ?_, k1, k2, by rw [List.length_append, List.length_singleton]; omega, hi, rfl⟩
          rw [List.map_append, Int.zero_add]; rfl
        · exact ⟨ts, rfl, h1, fun t ht => by have := h2 t ht; omega, by omega, hi, rfl⟩
      · rintro e acc ⟨ts, rfl, h1, h2, h3, h4, rfl⟩
        rw [nums_length] at h2 h3
        exact ⟨rfl, ts, rfl, h1, fun t ht => by have := h2 t ht; omega, by omega⟩
    refine seq_cut (fun e1 => ∃ ts : List Nat, ts.Pairwise (· < ·) ∧ (∀ t, t ∈ ts → (t : Int) < m) ∧ ts.length ≤ 12 ∧ e1 = [some (.pile p), some (.dat (.str L)), some (.dat (.int 2)), some (.dat (.int 4)), some (.dat (.int m)), some (.own pe sts), a, none, c, some (.dat (.tuple (ts.map fun t : Nat => PyData.int (t : Int))))]) ?_ ?_
    · refine es_asg (ev_cb (ea_cons ((pick _ _ _ _ ?_ _).imp ?_)))
      · intro k P k0 hP
        fail "z"
        refine ⟨⟨12, rfl, by decide, by decide⟩, ?_⟩
        rintro y ⟨n', z, e, rfl, z0, z1⟩
        cases e
        fail "z"
        have two : ∃ u : Int, L2.atI [PyData.int 11, .int 2] (if decide (0 < k) = true then 1 else 0) = some (.int u) := by
          cases decide (0 < k)
          · exact ⟨_, rfl⟩
          · exact ⟨_, rfl⟩
        obtain ⟨u, hu⟩ := two
        refine rd_ixL hu ?_
        fail "z"
        exact hP _
      · rintro e d ⟨rfl, ts, rfl, h1, h2, h3⟩
        fail "z"
        exact ⟨ts, h1, h2, h3, rfl⟩
    rintro e ⟨st, s1, s2, s3, rfl⟩
    refine es_ret (ev_tup (ea_cons (ev_var rfl (ea_cons (ev_var rfl (ea_cons (ev_var rfl (ea_cons (ev_cb (ea_cons ((pick _ _ _ _ ?_ _).imp ?_)))))))))))
    · intro k P k0 hP
      fail "z"
      refine ⟨⟨3, rfl, by decide, by decide⟩, ?_⟩
      rintro y ⟨n', z, e, rfl, z0, z1⟩
      cases e
      fail "z"
      exact hP _
    · rintro e d ⟨rfl, en, rfl, e1, e2, e3⟩
      refine ea_nil (rc_tuple (ea_cons (ev_cb (ea_cons (ev_own (p := pe) (ds := sts) rfl (ea_nil (rc_tuple (ea_nil ⟨(by show 5 ≤ sizeLine; decide), rfl, _, rfl, ?_⟩))))))))
      exact mach_made hL m1 m4 s1 s2 s3 e1 e2 e3 few hst
end


abbrev sBadL : Stmt := tp 26
theorem scsBadL : FnScope ["found", "ends", "odd"] [] (defScope sBadL) := ⟨rfl, rfl, rfl, by decide +kernel, rfl, by decide +kernel, by decide +kernel⟩
abbrev sBadM : Stmt := tp 27
theorem scsBadM : FnScope ["plain", "found", "letters", "many", "odd", "odds", "limit"] [] (defScope sBadM) := ⟨rfl, rfl, rfl, by decide +kernel, rfl, by decide +kernel, by decide +kernel⟩
/-! ### things that are no machines -/
abbrev T (ds : List PyData) : PyData := .tuple ds
abbrev S (x : String) : PyData := .str (Str.ofString x)
abbrev I (i : Int) : PyData := .int i
abbrev B (b : Bool) : PyData := .bool b
def limA : List PyData := [.none, I 0, T [], S "a", T [S "a"], T [S "a", .none], T [S "a", .none, .none, .none], .list [S "a", .none, .none], T [S "", .none, .none]]
def limB : List PyData := [T [S "z", .none, .none], T [S "", T [I 0, B false]], T [S "ab", .none, .none], T [.none, .none, .none], T [I 0, .none, .none]]
def endA : List PyData := [I 0, T [I 0], T [I 0, B false, I 0], .list [I 0, B false], T [I (-1), B false], T [B true, B false], T [I 0, I 0], T [I 0, .none], T [S "0", B false]]
def endB : List PyData := [T [.none, B true]]
def limC (d : PyData) : List PyData := [T [S "a", d, .none], T [S "a", T [I 0, B false], d]]
def limD : List PyData := [T [S "a", .none, T [I 1, B false]], T [S "", .none, T [I 1, B false]], T [.list [S "a"], .none, .none]]
def upTo (f : PyData → List PyData) (b : List PyData) (l : List PyData) : List PyData := b ++ (l.map f).flatten
theorem upTo_snoc (f : PyData → List PyData) (b l : List PyData) (d : PyData) : upTo f b (l ++ [d]) = upTo f b l ++ f d := by
  unfold upTo
  rw [List.map_append, List.flatten_append, List.append_assoc]
  simp
theorem upTo_len (k : Nat) (f : PyData → List PyData) (hf : ∀ d, (f d).length = k) (b l : List PyData) : (upTo f b l).length = b.length + k * l.length := by
  unfold upTo
  rw [List.length_append]
  congr 1
  induction l with
  | nil => rfl
  | cons d l ih => rw [List.map_cons, List.flatten_cons, List.length_append, ih, hf, List.length_cons, Nat.mul_add]; omega
def limU : List PyData := upTo limC (limA ++ limB) (endA ++ endB)
def badLims : List PyData := limU ++ limD
def maA : List PyData := [.none, I 0, B true, S "", T [], .list [], T [S "a", I 1, T [], T []], T [S "a", I 1, T [], T [], T [], T []], .list [S "a", I 1, T [], T [], T []]]
def maLs : List PyData := [S "", S "ba", S "aa", S "A", S "a b", .none, I 0, T [S "a"], .list [S "a"]]
def maLf (d : PyData) : List PyData := [T [d, I 1, T [I 0], T [I 0], T []]]
def maMs : List PyData := [I 0, I (-1), B true, .none, S "1", T [I 1]]
def maMf (d : PyData) : List PyData := [T [S "a", d, T [], T [], T []]]
def maOs : List PyData := [.none, I 0, .list [], .list [I 0], T [I 1], T [I (-1)], T [B true], T [I 0, I 0], T [S "0"], T [.none], S "0"]
def maOf (d : PyData) : List PyData := [T [S "a", I 1, d, T [], T []], T [S "a", I 1, T [], d, T []]]
def plainD : PyData := T [I 0, S "a", T [], I 0]
def maPs : List PyData := [.none, T [], T [I 0, S "a", T []], T [I 0, S "a", T [], I 0, I 0], .list [I 0, S "a", T [], I 0], T [I 1, S "a", T [], I 0], T [I 0, S "a", T [], I 1]]
def maPt : List PyData := [T [I 0, S "b", T [], I 0]]
def maPf (d : PyData) : List PyData := [T [S "a", I 1, T [I 0], T [I 0], T [d]], T [S "a", I 1, T [I 0], T [I 0], T [plainD, d]]]
def maQs : List PyData := [T [I 0, S "", T [], I 0], T [I 0, .none, T [], I 0], T [I 0, S "a", .list [], I 0], T [I 0, S "a", .none, I 0], T [B true, S "a", T [], I 0]]
def maQt : List PyData := [T [I 0, S "a", T [], B false]]
def maQf (d : PyData) : List PyData := [T [S "a", I 1, T [I 0], T [I 0], T [d]], T [S "a", I 1, T [I 0], T [I 0], T [d, plainD]]]
def maRf (d : PyData) : List PyData := [T [S "a", I 1, T [I 0], T [I 0], T [T [I 0, S "a", T [d], I 0]]]]
def maZ : List PyData := [T [S "a", I 2, T [I 1, I 0], T [], T []], T [S "a", I 1, T [I 0], T [I 0], .list []], T [S "a", I 1, T [I 0], T [I 0], .none]]
def ma1 : List PyData := upTo maLf maA maLs
def ma2 : List PyData := upTo maMf ma1 maMs
def ma3 : List PyData := upTo maOf ma2 maOs
def ma4 : List PyData := upTo maPf ma3 (maPs ++ maPt)
def ma5 : List PyData := upTo maQf ma4 (maQs ++ maQt)
def ma6 : List PyData := upTo maRf ma5 badLims
def badMachs : List PyData := ma6 ++ maZ
theorem bad_none : badMachs.filter isMach = [] := by decide +kernel
def okB (d : PyData) : Bool := sm d && (FD.noDict d && (PyData.canLay0 d && decide (PyData.depth d ≤ 60)))
theorem okB_ok {d : PyData} (h : okB d = true) : Okd d := by
  unfold okB at h
  simp only [Bool.and_eq_true, decide_eq_true_eq] at h
  exact ⟨h.1, h.2.1, h.2.2.1, h.2.2.2⟩
theorem bad_ok : ∀ d, d ∈ badMachs → Okd d := fun d hd => okB_ok (List.all_eq_true.mp (by decide +kernel : badMachs.all okB = true) d hd)
theorem rc_app {K : PySem.W.Frag} {env : En} {O : Outs} {i : Nat} {te : TE} {p : Addr} {f : PyData → List PyData} {b l : List PyData} {d x : PyData} (h0 : env[i]? = some (some (.own p (upTo f b l)))) (hf : f d = [x])
    (few : (upTo f b l).length < 1000) (h : EvE K te env fun e1 y => e1 = env ∧ y = x) (nx : O.nx (env.set i (some (.own p (upTo f b (l ++ [d])))))) : EvS K (tDrop (tBM K "list" rAppend (tVar i) (tCons te tNil))) env O := by
  refine es_append h0 (h.imp ?_)
  rintro e y ⟨rfl, rfl⟩
  refine ⟨_, h0, Nat.lt_of_lt_of_le few (by decide), ?_⟩
  rw [upTo_snoc, hf] at nx
  exact nx
section
variable {P : Program} {w : World} {K : PySem.W.Frag} {mg : Str → Option Value} {base : Heap} {f : Addr} {fd : FuncData}
theorem ok_badL (F : L2.Fun K "_law_bad_limits" "_law_bad_limits" sBadL f fd) (bi : Bi mg) : FnG P w K mg base 1 f fd [] (spF 0 (fun ds => ds = []) fun _ => .list badLims) := by
  refine fnD F scsBadL _ _ fun cdv A outer s H hg hr => ?_
  refine' ⟨_, ?h1, ?h2⟩
  case h1 =>
    have km : KMark K := ⟨⟩
    have nd : (["found", "ends", "odd"] : List Str).Nodup := by decide +kernel
    have : (["found", "ends", "odd"] : List Str)[0]? = some ("found" : Str) := rfl
    have : (["found", "ends", "odd"] : List Str)[1]? = some ("ends" : Str) := rfl
    have : (["found", "ends", "odd"] : List Str)[2]? = some ("odd" : Str) := rfl
    fail "fTop"
  case h2 =>
    rintro ds hl rfl
    show EvS K _ [none, none, none] _
    refine seq_cut (fun e1 => e1 = [some (.dat (.list limA)), none, none]) ?_ ?_
    · fail "z"
      rfl
    rintro e rfl
    refine seq_cut (fun e1 => e1 = [some (.dat (.list (limA ++ limB))), none, none]) ?_ ?_
    · fail "z"
      rfl
    rintro e rfl
    refine seq_cut (fun e1 => e1 = [some (.dat (.list (limA ++ limB))), some (.dat (.list endA)), none]) ?_ ?_
    · fail "z"
      rfl
    rintro e rfl
    refine seq_cut (fun e1 => ∃ a, e1 = [some (.dat (.list limU)), some (.dat (.list endA)), a]) ?_ ?_
    · refine es_for (ei_list ?_)
      refine ev_op (ev_var rfl ?_)
      fail "z"
      refine ⟨fun m e => ∃ a, e = [some (.dat (.list (upTo limC (limA ++ limB) ((endA ++ endB).take m)))), some (.dat (.list endA)), a] ∧ m ≤ 10, ⟨none, rfl, Nat.zero_le _⟩, ?_, ?_⟩
      · rintro m d e hd ⟨a, rfl, hm⟩
        have lt : m < 10 := (List.getElem?_eq_some_iff.mp hd).1
        have hd' : (endA ++ endB)[m]? = some d := hd
        fail "z"
        refine rd_plusL ?_ ?_
        · rw [upTo_len 2 _ (fun _ => rfl), List.length_take]
          show 14 + 2 * min m 10 + 2 ≤ sizeLine
          exact Nat.le_trans (show _ ≤ 1000 by omega) (by decide)
        fail "z"
        refine ⟨some (.dat d), ?_, lt⟩
        rw [List.take_add_one, hd']
        show [some (Sl.dat (PyData.list (_ ++ limC d))), _, _] = _
        rw [← upTo_snoc]
        rfl
      · rintro e ⟨a, rfl, _⟩
        exact ⟨a, rfl⟩
    rintro e ⟨a, rfl⟩
    fail "z"
    rfl
theorem ok_badM (F : L2.Fun K "_law_bad_machines" "_law_bad_machines" sBadM f fd) (bi : Bi mg) (c1 : Cal P w K mg base 1 "_law_bad_limits" [] (spF 0 (fun ds => ds = []) fun _ => .list badLims)) :
    FnG P w K mg base 2 f fd [] (spF 0 (fun ds => ds = []) fun _ => .list badMachs) := by
  refine fnD F scsBadM _ _ fun cdv A outer s H hg hr => ?_
  refine' ⟨_, ?h1, ?h2⟩
  case h1 =>
    have km : KMark K := ⟨⟩
    have nd : (["plain", "found", "letters", "many", "odd", "odds", "limit"] : List Str).Nodup := by decide +kernel
    have : (["plain", "found", "letters", "many", "odd", "odds", "limit"] : List Str)[0]? = some ("plain" : Str) := rfl
    have : (["plain", "found", "letters", "many", "odd", "odds", "limit"] : List Str)[1]? = some ("found" : Str) := rfl
    have : (["plain", "found", "letters", "many", "odd", "odds", "limit"] : List Str)[2]? = some ("letters" : Str) := rfl
    have : (["plain", "found", "letters", "many", "odd", "odds", "limit"] : List Str)[3]? = some ("many" : Str) := rfl
    have : (["plain", "found", "letters", "many", "odd", "odds", "limit"] : List Str)[4]? = some ("odd" : Str) := rfl
    have : (["plain", "found", "letters", "many", "odd", "odds", "limit"] : List Str)[5]? = some ("odds" : Str) := rfl
    have : (["plain", "found", "letters", "many", "odd", "odds", "limit"] : List Str)[6]? = some ("limit" : Str) := rfl
    fail "fTop"
  case h2 =>
    rintro ds hl rfl
    show EvS K _ [none, none, none, none, none, none, none] _
    refine seq_cut (fun e1 => e1 = [some (.dat plainD), none, none, none, none, none, none]) ?_ ?_
    · fail "z"
      rfl
    rintro e rfl
    refine seq_cut (fun e1 => ∃ p, e1 = [some (.dat plainD), some (.own p maA), none, none, none, none, none]) ?_ ?_
    · refine es_ownLst ?_
      fail "z"
      exact fun p => ⟨p, rfl⟩
    rintro e ⟨p, rfl⟩
    refine seq_cut (fun e1 => ∃ a, e1 = [some (.dat plainD), some (.own p ma1), a, none, none, none, none]) ?_ ?_
    · refine es_for (ei_list ?_)
      fail "z"
      refine ⟨fun m e => ∃ a, e = [some (.dat plainD), some (.own p (upTo maLf maA ((maLs).take m))), a, none, none, none, none] ∧ m ≤ 9, ⟨none, rfl, Nat.zero_le _⟩, ?_, ?_⟩
      · rintro m d e hd ⟨a, rfl, hm⟩
        have hd' : (maLs)[m]? = some d := hd
        have lt : m < 9 := (List.getElem?_eq_some_iff.mp hd').1
        refine eg_name (rc_app (f := maLf) (d := d) rfl rfl ?_ ?_ ?_)
        · rw [upTo_len 1 _ (fun _ => rfl), List.length_take]
          show 9 + 1 * min m 9 < 1000
          omega
        · fail "z"
          rfl
        · refine ⟨some (.dat d), ?_, lt⟩
          rw [List.take_add_one, hd']; rfl
      · rintro e ⟨a, rfl, _⟩
        exact ⟨a, rfl⟩
    rintro e ⟨b1, rfl⟩
    refine seq_cut (fun e1 => ∃ a, e1 = [some (.dat plainD), some (.own p ma2), b1, a, none, none, none]) ?_ ?_
    · refine es_for (ei_list ?_)
      fail "z"
      refine ⟨fun m e => ∃ a, e = [some (.dat plainD), some (.own p (upTo maMf ma1 ((maMs).take m))), b1, a, none, none, none] ∧ m ≤ 6, ⟨none, rfl, Nat.zero_le _⟩, ?_, ?_⟩
      · rintro m d e hd ⟨a, rfl, hm⟩
        have hd' : (maMs)[m]? = some d := hd
        have lt : m < 6 := (List.getElem?_eq_some_iff.mp hd').1
        refine eg_name (rc_app (f := maMf) (d := d) rfl rfl ?_ ?_ ?_)
        · rw [upTo_len 1 _ (fun _ => rfl), List.length_take]
          show 18 + 1 * min m 6 < 1000
          omega
        · fail "z"
          rfl
        · refine ⟨some (.dat d), ?_, lt⟩
          rw [List.take_add_one, hd']; rfl
      · rintro e ⟨a, rfl, _⟩
        exact ⟨a, rfl⟩
    rintro e ⟨b2, rfl⟩
    refine seq_cut (fun e1 => ∃ p a, e1 = [some (.dat plainD), some (.own p ma3), b1, b2, a, none, none]) ?_ ?_
    · refine es_for (ei_list ?_)
      fail "z"
      refine ⟨fun m e => ∃ p a, e = [some (.dat plainD), some (.own p (upTo maOf ma2 ((maOs).take m))), b1, b2, a, none, none] ∧ m ≤ 11, ⟨p, none, rfl, Nat.zero_le _⟩, ?_, ?_⟩
      · rintro m d e hd ⟨p, a, rfl, hm⟩
        have hd' : (maOs)[m]? = some d := hd
        have lt : m < 11 := (List.getElem?_eq_some_iff.mp hd').1
        refine eg_name (es_ownPlus (ev_own (p := p) (ds := upTo maOf ma2 ((maOs).take m)) rfl ?_))
        fail "z"
        refine ⟨?_, fun p => ⟨p, some (.dat d), ?_, lt⟩⟩
        · have few : ∀ b l, (upTo maOf b l).length = b.length + 2 * l.length := upTo_len 2 _ fun _ => rfl
          rw [few, List.length_take]
          show 24 + 2 * min m 11 + 2 ≤ sizeLine
          exact Nat.le_trans (show _ ≤ 1000 by omega) (by decide)
        · rw [List.take_add_one, hd']
          show _ = [some (.dat plainD), some (.own p (upTo maOf ma2 ((maOs).take m ++ [d]))), b1, b2, some (.dat d), none, none]
          rw [upTo_snoc]; rfl
      · rintro e ⟨p, a, rfl, _⟩
        exact ⟨p, a, rfl⟩
    rintro e ⟨p, b3, rfl⟩
    refine seq_cut (fun e1 => e1 = [some (.dat plainD), some (.own p ma3), b1, b2, b3, some (.dat (.list maPs)), none]) ?_ ?_
    · fail "z"
      rfl
    rintro e rfl
    refine seq_cut (fun e1 => ∃ p a, e1 = [some (.dat plainD), some (.own p ma4), b1, b2, a, some (.dat (.list maPs)), none]) ?_ ?_
    · refine es_for (ei_list ?_)
      fail "z"
      refine ⟨fun m e => ∃ p a, e = [some (.dat plainD), some (.own p (upTo maPf ma3 ((maPs ++ maPt).take m))), b1, b2, a, some (.dat (.list maPs)), none] ∧ m ≤ 8, ⟨p, b3, rfl, Nat.zero_le _⟩, ?_, ?_⟩
      · rintro m d e hd ⟨p, a, rfl, hm⟩
        have hd' : (maPs ++ maPt)[m]? = some d := hd
        have lt : m < 8 := (List.getElem?_eq_some_iff.mp hd').1
        refine eg_name (es_ownPlus (ev_own (p := p) (ds := upTo maPf ma3 ((maPs ++ maPt).take m)) rfl ?_))
        fail "z"
        refine ⟨?_, fun p => ⟨p, some (.dat d), ?_, lt⟩⟩
        · have few : ∀ b l, (upTo maPf b l).length = b.length + 2 * l.length := upTo_len 2 _ fun _ => rfl
          rw [few, List.length_take]
          show 46 + 2 * min m 8 + 2 ≤ sizeLine
          exact Nat.le_trans (show _ ≤ 1000 by omega) (by decide)
        · rw [List.take_add_one, hd']
          show _ = [some (.dat plainD), some (.own p (upTo maPf ma3 ((maPs ++ maPt).take m ++ [d]))), b1, b2, some (.dat d), some (.dat (.list maPs)), none]
          rw [upTo_snoc]; rfl
      · rintro e ⟨p, a, rfl, _⟩
        exact ⟨p, a, rfl⟩
    rintro e ⟨p, b4, rfl⟩
    refine seq_cut (fun e1 => e1 = [some (.dat plainD), some (.own p ma4), b1, b2, b4, some (.dat (.list maQs)), none]) ?_ ?_
    · fail "z"
      rfl
    rintro e rfl
    refine seq_cut (fun e1 => ∃ p a, e1 = [some (.dat plainD), some (.own p ma5), b1, b2, a, some (.dat (.list maQs)), none]) ?_ ?_
    · refine es_for (ei_list ?_)
      fail "z"
      refine ⟨fun m e => ∃ p a, e = [some (.dat plainD), some (.own p (upTo maQf ma4 ((maQs ++ maQt).take m))), b1, b2, a, some (.dat (.list maQs)), none] ∧ m ≤ 6, ⟨p, b4, rfl, Nat.zero_le _⟩, ?_, ?_⟩
      · rintro m d e hd ⟨p, a, rfl, hm⟩
        have hd' : (maQs ++ maQt)[m]? = some d := hd
        have lt : m < 6 := (List.getElem?_eq_some_iff.mp hd').1
        refine eg_name (es_ownPlus (ev_own (p := p) (ds := upTo maQf ma4 ((maQs ++ maQt).take m)) rfl ?_))
        fail "z"
        refine ⟨?_, fun p => ⟨p, some (.dat d), ?_, lt⟩⟩
        · have few : ∀ b l, (upTo maQf b l).length = b.length + 2 * l.length := upTo_len 2 _ fun _ => rfl
          rw [few, List.length_take]
          show 62 + 2 * min m 6 + 2 ≤ sizeLine
          exact Nat.le_trans (show _ ≤ 1000 by omega) (by decide)
        · rw [List.take_add_one, hd']
          show _ = [some (.dat plainD), some (.own p (upTo maQf ma4 ((maQs ++ maQt).take m ++ [d]))), b1, b2, some (.dat d), some (.dat (.list maQs)), none]
          rw [upTo_snoc]; rfl
      · rintro e ⟨p, a, rfl, _⟩
        exact ⟨p, a, rfl⟩
    rintro e ⟨p, b5, rfl⟩
    refine seq_cut (fun e1 => ∃ a, e1 = [some (.dat plainD), some (.own p ma6), b1, b2, b5, some (.dat (.list maQs)), a]) ?_ ?_
    · refine es_for (ei_list ?_)
      fail "z"
      show ∃ W : Nat → En → Prop, _
      refine ⟨fun m e => ∃ a, e = [some (.dat plainD), some (.own p (upTo maRf ma5 ((badLims).take m))), b1, b2, b5, some (.dat (.list maQs)), a] ∧ m ≤ 37, ⟨none, rfl, Nat.zero_le _⟩, ?_, ?_⟩
      · rintro m d e hd ⟨a, rfl, hm⟩
        have hd' : (badLims)[m]? = some d := hd
        have lt : m < 37 := (List.getElem?_eq_some_iff.mp hd').1
        refine eg_name (rc_app (f := maRf) (d := d) rfl rfl ?_ ?_ ?_)
        · rw [upTo_len 1 _ (fun _ => rfl), List.length_take]
          show 74 + 1 * min m 37 < 1000
          omega
        · fail "z"
          rfl
        · refine ⟨some (.dat d), ?_, lt⟩
          rw [List.take_add_one, hd']; rfl
      · rintro e ⟨a, rfl, _⟩
        exact ⟨a, rfl⟩
    rintro e ⟨b6, rfl⟩
    refine es_ret (ev_op (ev_own (p := p) (ds := ma6) rfl ?_))
    fail "z"
    rfl
end


abbrev sBent : Stmt := tp 33
theorem scsBent : FnScope ["pile", "thing", "deep", "odd", "at", "way"] ["pile", "thing", "deep"] (defScope sBent) := ⟨rfl, rfl, rfl, by decide +kernel, rfl, by decide +kernel, by decide +kernel⟩
/-! ### what stands in the place of a part -/
def oddD : List PyData := [.none, B true, I 0, I 1, I (-1), I 7, S "", S "a", S "B", T [], .list [], T [I 0, B false], T [S "a", .none, .none], S "ab"]
/-- small, and not deeper than n -/
def OkN (n : Nat) (d : PyData) : Prop := sm d = true ∧ Fine n d
def okN4 (d : PyData) : Bool := sm d && (FD.noDict d && (PyData.canLay0 d && decide (PyData.depth d ≤ 4)))
theorem odd_ok : ∀ d, d ∈ oddD → OkN 4 d := fun d hd => by
  have h := List.all_eq_true.mp (by decide +kernel : oddD.all okN4 = true) d hd
  unfold okN4 at h
  simp only [Bool.and_eq_true, decide_eq_true_eq] at h
  exact ⟨h.1, h.2.1, h.2.2.1, h.2.2.2⟩
theorem okN_mk {n : Nat} {ds : List PyData} (hl : ds.length ≤ 1000) (h : ∀ d, d ∈ ds → OkN n d) : OkN (n + 1) (.tuple ds) := ⟨sm_mk hl fun d hd => (h d hd).1, fine_tup fun d hd => (h d hd).2⟩
theorem okN_up {n m : Nat} {d : PyData} (h : OkN n d) (l : n ≤ m) : OkN m d := ⟨h.1, fine_up h.2 l⟩
abbrev preB (n : Nat) : List PyData → Prop := fun ds => ∃ d : PyData, ds = [d, .int n] ∧ Fine 6 d ∧ smB 12 d = true
abbrev postB (n : Nat) : List PyData → PyData → Prop := fun _ d => OkN (n + 10) d
section
variable {P : Program} {w : World} {K : PySem.W.Frag} {mg : Str → Option Value} {base : Heap} {f : Addr} {fd : FuncData}
theorem bent_none (F : L2.Fun K "_law_bent" "_law_bent" sBent f fd) : FnG P w K mg base 2 f fd ["pile", "thing", "deep"] (spP 2 (fun _ => False) (postB 0)) :=
  fnG_of F scsBent (fun vs H Q E ⟨_, _, _, _, _, _, _, _, _, _, h, _⟩ => h.elim) fun cdv A outer s H vs Q hg hr ⟨_, _, _, _, _, _, _, _, _, _, h, _⟩ => h.elim
theorem bent_step (F : L2.Fun K "_law_bent" "_law_bent" sBent f fd) (bi : Bi mg) {k n : Nat} {pre' : List PyData → Prop} {post' : List PyData → PyData → Prop} (hk : 2 ≤ k) (hn : n ≤ 6) (c1 : Cal P w K mg base 2 "_law_take" ["pile", "size"] (spP 1 preT postT))
    (c2 : Cal P w K mg base k "_law_bent" ["pile", "thing", "deep"] (spP 2 pre' post')) (hp : n = 0 ∨ ∃ j, n = j + 1 ∧ pre' = preB j ∧ post' = postB j) :
    FnG P w K mg base (k + 1) f fd ["pile", "thing", "deep"] (spP 2 (preB n) (postB n)) := by
  refine fnP F scsBent (by simp) _ _ fun cdv A outer s H hg hr => ?_
  refine' ⟨_, ?h1, ?h2⟩
  case h1 =>
    have km : KMark K := ⟨⟩
    have nd : (["pile", "thing", "deep", "odd", "at", "way"] : List Str).Nodup := by decide +kernel
    have : (["pile", "thing", "deep", "odd", "at", "way"] : List Str)[0]? = some ("pile" : Str) := rfl
    have : (["pile", "thing", "deep", "odd", "at", "way"] : List Str)[1]? = some ("thing" : Str) := rfl
    have : (["pile", "thing", "deep", "odd", "at", "way"] : List Str)[2]? = some ("deep" : Str) := rfl
    have : (["pile", "thing", "deep", "odd", "at", "way"] : List Str)[3]? = some ("odd" : Str) := rfl
    have : (["pile", "thing", "deep", "odd", "at", "way"] : List Str)[4]? = some ("at" : Str) := rfl
    have : (["pile", "thing", "deep", "odd", "at", "way"] : List Str)[5]? = some ("way" : Str) := rfl
    fail "fTop"
  case h2 =>
    rintro p ds hl ⟨d, rfl, fd, hs⟩
    show EvS K _ [some (.pile p), some (.dat d), some (.dat (.int n)), none, none, none] _
    fail "z"
    refine ⟨⟨14, rfl, by decide, by decide⟩, ?_⟩
    rintro y ⟨n', z, e, rfl, z0, z1⟩
    cases e
    obtain ⟨j, rfl⟩ := Int.eq_ofNat_of_zero_le z0
    have jl : j < oddD.length := by show j < 14; omega
    refine rd_ixL (d := oddD[j]) (at_nat (List.getElem?_eq_getElem jl)) ?_
    have hx : OkN 4 oddD[j] := odd_ok _ (List.getElem_mem jl)
    generalize oddD[j] = x at hx
    refine eg_name ?_
    have sd : sm d = true := sm_of _ (smB_mono (by decide) _ hs)
    have fin : ∀ a b : Option Sl, EvE K (tOp (rIx K) (tLst (tCons (tVar 3) (tCons (tVar 3) (tCons (tLst (tCons (tVar 1) tNil)) tNil)))) (tCB (callOf (spP 1 preT postT)) (tCons (tVar 0) (tCons (tC (V.int 3)) tNil))))
        [some (.pile p), some (.dat d), some (.dat (.int n)), some (.dat x), a, b] fun e y => e[0]? = some (some (.pile p)) ∧ OkN (n + 10) y := fun a b => by
      fail "z"
      refine ⟨⟨3, rfl, by decide, by decide⟩, ?_⟩
      rintro y ⟨n', z, e, rfl, z0, z1⟩
      cases e
      have : z = 0 ∨ z = 1 ∨ z = 2 := by omega
      rcases this with rfl | rfl | rfl
      · exact rd_ixL (d := x) rfl ⟨rfl, okN_up hx (by omega)⟩
      · exact rd_ixL (d := x) rfl ⟨rfl, okN_up hx (by omega)⟩
      · refine rd_ixL (d := .list [d]) rfl ⟨rfl, ?_, fine_up (fine_lst (n := 6) fun e he => by rw [List.mem_singleton.mp he]; exact fd) (by omega)⟩
        show (decide (1 ≤ 1000) && (sm d && true)) = true
        rw [sd]; rfl
    refine es_seq (es_if (eb_or (eb_not (ev_tB (ev_isi (by decide) (ev_var rfl ⟨_, rfl, fun hc => ?_, fun hc => ⟨fun _ => es_ret (fin _ _), fun h => nomatch h⟩⟩))))))
    have ⟨ds, hds⟩ : ∃ ds, d = .tuple ds := by
      cases d with
      | tuple ds => exact ⟨ds, rfl⟩
      | _ => cases hc
    subst hds
    obtain ⟨hln, hits⟩ := smB_tup.mp hs
    have smi : ∀ e, e ∈ ds → OkN (n + 9) e := fun e he => ⟨sm_of _ (smB_mono (by decide) _ (hits e he)), fine_up (fine_items fd e he) (by omega)⟩
    refine eb_or (ev_test (ev_op (ev_var rfl (ev_tup (ea_nil ⟨Nat.zero_le _, rd_eqA (fine_eqOk fd (by decide)) (by rfl) ⟨_, rfl, fun h0 => ?_, fun _ => ⟨fun _ => es_ret (fin _ _), fun h => nomatch h⟩⟩⟩)))))
    have nn : ds ≠ [] := fun z => by subst z; cases h0
    have n1 : 1 ≤ ds.length := by
      cases ds with
      | nil => exact (nn rfl).elim
      | cons _ _ => rw [List.length_cons]; omega
    refine eb_or (ev_test (ev_op (ev_var rfl (ev_int (rd_eqA (by rfl) (by rfl) ⟨_, rfl, fun hn0 => ?_, fun _ => ⟨fun _ => es_ret (fin _ _), fun h => nomatch h⟩⟩)))))
    have n0 : n ≠ 0 := fun z => by subst z; cases hn0
    obtain ⟨j', hj, hpre, hpost⟩ : ∃ j, n = j + 1 ∧ pre' = preB j ∧ post' = postB j := hp.resolve_left n0
    subst hpre hpost
    refine ev_test (ev_op (ev_callP rfl (ea_cons (ev_int (ea_nil ⟨rfl, rfl, ⟨7, rfl, by decide, by decide⟩, ?_⟩)))))
    rintro y ⟨n', z, e, rfl, z2, z3⟩
    cases e
    refine ev_int (rd_eqA (by rfl) (by rfl) ⟨_, rfl, fun _ => es_ret (fin _ _), fun _ => es_next ?_⟩)
    clear fin
    fail "z"
    refine ⟨⟨ds.length, rfl, by omega, by omega⟩, ?_⟩
    rintro y ⟨n', z, e, rfl, z4, z5⟩
    cases e
    obtain ⟨i, rfl⟩ := Int.eq_ofNat_of_zero_le z4
    have il : i < ds.length := by omega
    fail "z"
    refine ⟨⟨8, rfl, by decide, by decide⟩, ?_⟩
    rintro y ⟨n', z, e, rfl, z6, z7⟩
    cases e
    have cl := cut_len ds
    have big : (1000 : Nat) ≤ sizeLine := by decide
    fail "z"
    · have a1 := cl none (some (i : Int))
      have a2 := cl (some ((i : Int) + 1)) none
      refine rd_plusT (by omega) ⟨rfl, okN_mk (n := n + 9) (by rw [List.length_append]; omega) fun e he => ?_⟩
      rcases List.mem_append.mp he with h | h
      · exact smi _ (cut_mem h)
      · exact smi _ (cut_mem h)
    · have a1 := cl none (some (i : Int))
      have a2 := cl (some (i : Int)) none
      refine rd_plusT (by show _ + 1 ≤ _; omega) ?_
      fail "z"
      refine rd_plusT (by rw [List.length_append]; show _ + 1 + _ ≤ _; omega) ⟨rfl, okN_mk (n := n + 9) (by rw [List.length_append, List.length_append]; show _ + 1 + _ ≤ _; omega) fun e he => ?_⟩
      rcases List.mem_append.mp he with h | h
      · rcases List.mem_append.mp h with h | h
        · exact smi _ (cut_mem h)
        · obtain rfl := List.mem_singleton.mp h
          exact okN_up hx (by omega)
      · exact smi _ (cut_mem h)
    · exact okN_mk (n := n + 9) (by rw [List.length_reverse]; omega) fun e he => smi _ (List.mem_reverse.mp he)
    · have a1 := cl none (some (i : Int))
      have a2 := cl (some ((i : Int) + 1)) none
      have mem : ds[i] ∈ ds := List.getElem_mem il
      refine rd_ixT (d := ds[i]) (at_nat (List.getElem?_eq_getElem il)) ?_
      fail "z"
      refine ⟨⟨ds[i], (by rw [show (n : Int) - 1 = (j' : Int) by omega]), fine_items fd _ mem, hits _ mem⟩, ?_⟩
      rintro y hy
      fail "z"
      refine rd_plusT (by show _ + 1 ≤ _; omega) ?_
      fail "z"
      refine rd_plusT (by rw [List.length_append]; show _ + 1 + _ ≤ _; omega) ⟨rfl, okN_mk (n := n + 9) (by rw [List.length_append, List.length_append]; show _ + 1 + _ ≤ _; omega) fun e he => ?_⟩
      rcases List.mem_append.mp he with h | h
      · rcases List.mem_append.mp h with h | h
        · exact smi _ (cut_mem h)
        · obtain rfl := List.mem_singleton.mp h
          exact okN_up hy (by omega)
      · exact smi _ (cut_mem h)
end


abbrev sLaw : Stmt := tp 34
theorem scsLaw : FnScope ["script", "k", "pile", "machine", "kept", "turn", "bent", "truth", "sign", "some", "far", "thing"] ["script"] (defScope sLaw) := ⟨rfl, rfl, rfl, by decide +kernel, rfl, by decide +kernel, by decide +kernel⟩
/-! ### a letter's machine, and what stands beside the letters -/
def signM (c : Nat) : PyData := T [.str ⟨#[c]⟩, I 1, T [I 0], T [], T [T [I 0, .str ⟨#[c]⟩, T [T [.str ⟨#[c]⟩, .none, .none]], I 0]]]
theorem abc_dec : ∀ j : Fin 26, (okB (signM (97 + j.val)) && isMach (signM (97 + j.val))) = true := by decide +kernel
theorem abc_cps : ("abcdefghijklmnopqrstuvwxyz" : Str).cps.toList.all (fun c => decide (97 ≤ c ∧ c < 123)) = true := by decide +kernel
theorem abc_sign {m : Nat} {d : PyData} (h : (FD.signs "abcdefghijklmnopqrstuvwxyz")[m]? = some d) : ∃ c : Nat, d = .str ⟨#[c]⟩ ∧ Okd (signM c) ∧ isMach (signM c) = true := by
  obtain ⟨c, hc, rfl⟩ := List.mem_map.mp (List.mem_of_getElem? h)
  have hb := of_decide_eq_true (List.all_eq_true.mp abc_cps c hc)
  have z := abc_dec ⟨c - 97, by omega⟩
  simp only [Bool.and_eq_true] at z
  rw [show 97 + (c - 97) = c by omega] at z
  exact ⟨c, rfl, okB_ok z.1, z.2⟩
def fiveS : List PyData := [S "`", S "{", S "a{", S "az|", S "b~"]
def someM (d : PyData) : PyData := T [d, I 1, T [], T [], T []]
theorem five_ok {m : Nat} {d : PyData} (h : fiveS[m]? = some d) : Okd (someM d) ∧ isMach (someM d) = false := by
  have hm : d ∈ fiveS := List.mem_of_getElem? h
  have z := List.all_eq_true.mp (by decide +kernel : fiveS.all (fun d => okB (someM d) && !isMach (someM d)) = true) d hm
  simp only [Bool.and_eq_true, Bool.not_eq_true'] at z
  exact ⟨okB_ok z.1, z.2⟩
def farStep : PyData := T [I 0, S "z", T [T [S "", T [I 3, B true], T [I 1, B false]], T [S "a", .none, .none]], I 1]
def farM : PyData := T [S "az", I 2, T [I 0, I 1], T [], .tuple (List.replicate (2 : Int).toNat [farStep]).flatten]
theorem far_ok : Okd farM ∧ isMach farM = true := by
  have z : (okB farM && isMach farM) = true := by decide +kernel
  simp only [Bool.and_eq_true] at z
  exact ⟨okB_ok z.1, z.2⟩
theorem q_ok : Okd (someM (S "q")) ∧ isMach (someM (S "q")) = true := by
  have z : (okB (someM (S "q")) && isMach (someM (S "q"))) = true := by decide +kernel
  simp only [Bool.and_eq_true] at z
  exact ⟨okB_ok z.1, z.2⟩
section
variable {P : Program} {w : World} {K : PySem.W.Frag} {mg : Str → Option Value} {base : Heap} {f : Addr} {fd : FuncData}
theorem ok_law (F : L2.Fun K "law" "law" sLaw f fd) (bi : Bi mg) (c1 : Cal P w K mg base 5 "is_machine" ["thing"] (spF 1 preMa fMach)) (c2 : Cal P w K mg base 6 "_law_is_machine" ["thing"] (spF 1 preMa fMach))
    (c3 : Cal P w K mg base 2 "_law_pile" ["script", "k"] (spN K)) (c4 : Cal P w K mg base 3 "_law_letters" ["pile"] (spP 0 (fun ds => ds = []) fun _ d => d = .str "a" ∨ d = .str "ab"))
    (c5 : Cal P w K mg base 6 "_law_machine" ["pile", "letters", "m", "most"] (spP 3 preMM postMM)) (c6 : Cal P w K mg base 9 "_law_bent" ["pile", "thing", "deep"] (spP 2 (preB 6) (postB 6)))
    (c7 : Cal P w K mg base 2 "_law_bad_machines" [] (spF 0 (fun ds => ds = []) fun _ => .list badMachs)) :
    FnG P w K mg base 10 f fd ["script"] (spL K) := by
  refine fnL F scsLaw rfl fun cdv A outer s H hg hr => ?_
  refine' ⟨_, ?h1, ?h2⟩
  case h1 =>
    have km : KMark K := ⟨⟩
    have nd : (["script", "k", "pile", "machine", "kept", "turn", "bent", "truth", "sign", "some", "far", "thing"] : List Str).Nodup := by decide +kernel
    have : (["script", "k", "pile", "machine", "kept", "turn", "bent", "truth", "sign", "some", "far", "thing"] : List Str)[0]? = some ("script" : Str) := rfl
    have : (["script", "k", "pile", "machine", "kept", "turn", "bent", "truth", "sign", "some", "far", "thing"] : List Str)[1]? = some ("k" : Str) := rfl
    have : (["script", "k", "pile", "machine", "kept", "turn", "bent", "truth", "sign", "some", "far", "thing"] : List Str)[2]? = some ("pile" : Str) := rfl
    have : (["script", "k", "pile", "machine", "kept", "turn", "bent", "truth", "sign", "some", "far", "thing"] : List Str)[3]? = some ("machine" : Str) := rfl
    have : (["script", "k", "pile", "machine", "kept", "turn", "bent", "truth", "sign", "some", "far", "thing"] : List Str)[4]? = some ("kept" : Str) := rfl
    have : (["script", "k", "pile", "machine", "kept", "turn", "bent", "truth", "sign", "some", "far", "thing"] : List Str)[5]? = some ("turn" : Str) := rfl
    have : (["script", "k", "pile", "machine", "kept", "turn", "bent", "truth", "sign", "some", "far", "thing"] : List Str)[6]? = some ("bent" : Str) := rfl
    have : (["script", "k", "pile", "machine", "kept", "turn", "bent", "truth", "sign", "some", "far", "thing"] : List Str)[7]? = some ("truth" : Str) := rfl
    have : (["script", "k", "pile", "machine", "kept", "turn", "bent", "truth", "sign", "some", "far", "thing"] : List Str)[8]? = some ("sign" : Str) := rfl
    have : (["script", "k", "pile", "machine", "kept", "turn", "bent", "truth", "sign", "some", "far", "thing"] : List Str)[9]? = some ("some" : Str) := rfl
    have : (["script", "k", "pile", "machine", "kept", "turn", "bent", "truth", "sign", "some", "far", "thing"] : List Str)[10]? = some ("far" : Str) := rfl
    have : (["script", "k", "pile", "machine", "kept", "turn", "bent", "truth", "sign", "some", "far", "thing"] : List Str)[11]? = some ("thing" : Str) := rfl
    fail "fTop"
  case h2 =>
    intro p ns hl
    show EvS K _ [some (.script p ns), none, none, none, none, none, none, none, none, none, none, none] _
    have cut : ∀ {t u : TS} {e : En} (M : En → Prop), EvS K t e { nx := M, rt := fun _ d => d = .bool true } → (∀ e1, M e1 → EvS K u e1 { nx := fun _ => False, rt := fun _ d => d = .bool true }) →
        EvS K (tSeq t u) e { nx := fun _ => False, rt := fun _ d => d = .bool true } := fun M h1 h2 => es_seq (h1.imp h2 (fun _ _ z => z) (fun _ z => z.elim) (fun _ z => z.elim) (fun _ z => z.elim))
    refine cut (fun e => ∃ v1 v2 v3 v4 v5 v6 v7, e = [some (.script p ns), v1, v2, v3, v4, v5, v6, v7, none, none, none, none]) ?_ ?_
    · refine es_for (ei_rng1 ?_)
      fail "z"
      refine ⟨(by omega), ?_⟩
      refine ⟨fun _ e => ∃ v1 v2 v3 v4 v5 v6 v7, e = [some (.script p ns), v1, v2, v3, v4, v5, v6, v7, none, none, none, none], ⟨none, none, none, none, none, none, none, rfl⟩, ?_, ?_⟩
      · rintro m d e hd ⟨v1, v2, v3, v4, v5, v6, v7, rfl⟩
        obtain ⟨hm, rfl⟩ := nums_get hd
        refine eg_name (es_seq (es_pile rfl hl (ev_var rfl ⟨rfl, _, rfl, by omega⟩) fun q => ?_))
        show EvS K _ [some (.script p ns), some (.dat (.int (0 + (m : Int)))), some (.pile q), v3, v4, v5, v6, v7, none, none, none, none] _
        fail "z"
        rintro y hL
        obtain ⟨L, rfl, hL2⟩ : ∃ L, y = .str L ∧ (L = "a" ∨ L = "ab") := by
          rcases hL with rfl | rfl
          · exact ⟨_, rfl, .inl rfl⟩
          · exact ⟨_, rfl, .inr rfl⟩
        fail "z"
        refine ⟨⟨L, rfl, hL2⟩, ?_⟩
        rintro y ⟨es, rfl, mm⟩
        have om : Okd (.tuple es) := ⟨sm_of _ (smB_mono (by decide) _ mm.pt.sb), fine_up mm.pt.fn (by decide)⟩
        have rr := mm.pt.repr (Nat.le_refl _)
        have ok := mm.ok
        refine eg_name ?_
        refine seq_cut (fun e1 => e1 = [some (.script p ns), some (.dat (.int (0 + (m : Int)))), some (.pile q), some (.dat (.tuple es)), some (.dat (.str (PyData.shown (.tuple es)))), v5, v6, v7, none, none, none, none]) ?_ ?_
        · fail "z"
          refine rc_reprT rr ?_
          fail "z"
          rfl
        rintro e rfl
        refine seq_cut (fun e1 => e1 = [some (.script p ns), some (.dat (.int (0 + (m : Int)))), some (.pile q), some (.dat (.tuple es)), some (.dat (.str (PyData.shown (.tuple es)))), v5, v6, v7, none, none, none, none]) ?_ ?_
        · fail "z"
          refine ⟨⟨_, rfl, om⟩, ?_⟩
          fail "v1"
          show RD K rIsNotAny _ (.bool (isMach _)) _ _
          rw [ok]
          fail "z"
          refine ⟨⟨_, rfl, om⟩, ?_⟩
          refine ⟨isMach (.tuple es), rfl, ?_⟩
          rw [ok]
          fail "z"
          refine rc_reprT rr ?_
          fail "v1"
          refine rd_neS1 ?_
          fail "z"
          rfl
        rintro e rfl
        refine es_for (ei_rng1 ?_)
        fail "z"
        refine ⟨(by decide), ?_⟩
        refine ⟨fun _ e => ∃ v5 v6 v7, e = [some (.script p ns), some (.dat (.int (0 + (m : Int)))), some (.pile q), some (.dat (.tuple es)), some (.dat (.str (PyData.shown (.tuple es)))), v5, v6, v7, none, none, none, none], ⟨_, _, _, rfl⟩, ?_, ?_⟩
        · rintro m3 d3 e hd3 ⟨x5, x6, x7, rfl⟩
          refine eg_name ?_
          refine seq_cut (fun e1 => ∃ b, Okd b ∧ e1 = [some (.script p ns), some (.dat (.int (0 + (m : Int)))), some (.pile q), some (.dat (.tuple es)), some (.dat (.str (PyData.shown (.tuple es)))), some (.dat d3), some (.dat b), x7, none, none, none, none]) ?_ ?_
          · fail "z"
            refine ⟨⟨.tuple es, rfl, mm.pt.fn, mm.pt.sb⟩, ?_⟩
            rintro b hb
            refine eg_name ⟨b, ⟨hb.1, fine_up hb.2 (by decide)⟩, rfl⟩
          rintro e ⟨b, ob, rfl⟩
          fail "z"
          refine ⟨⟨b, rfl, ob⟩, ?_⟩
          show EvG K (gName 7) (.bool (isMach b)) _ _
          fail "z"
          refine ⟨⟨b, rfl, ob⟩, ?_⟩
          show RD K (rNeA K) _ (.bool (isMach b)) (.bool (isMach b)) _
          refine rd_neA (by rfl) (by rfl) ?_
          rw [show PyData.eqv (.bool (isMach b)) (.bool (isMach b)) = true from by cases isMach b <;> rfl]
          fail "z"
          exact ⟨_, _, _, rfl⟩
        · rintro e ⟨x5, x6, x7, rfl⟩
          exact ⟨_, _, _, _, _, _, _, rfl⟩
      · exact fun e h => h
    rintro e ⟨v1, v2, v3, v4, v5, v6, v7, rfl⟩
    refine cut (fun e => e = [some (.script p ns), v1, v2, v3, v4, v5, v6, v7, none, none, none, none]) ?_ ?_
    · refine es_if (ev_test (ev_op (ev_filter isMach (ei_list (ev_callF (ea_nil ⟨rfl, rfl, badMachs, rfl, by decide +kernel, (by show 11 < 12; decide), fun d hd => ?_, ?_⟩))))))
      · fail "z"
        refine ⟨⟨d, rfl, bad_ok d hd⟩, ?_⟩
        fail "v1"
        show RD K rIsNotAny _ (.bool (isMach d)) _ _
        fail "z"
        cases isMach d <;> rfl
      · rw [bad_none]
        fail "z"
        rfl
    rintro e rfl
    refine cut (fun e => ∃ s8, e = [some (.script p ns), v1, v2, v3, v4, v5, v6, v7, s8, none, none, none]) ?_ ?_
    · refine es_for (ei_str (ev_str ⟨_, rfl, ?_⟩))
      refine ⟨fun _ e => ∃ s8, e = [some (.script p ns), v1, v2, v3, v4, v5, v6, v7, s8, none, none, none], ⟨none, rfl⟩, ?_, ?_⟩
      · rintro m d e hd ⟨s8, rfl⟩
        obtain ⟨c, rfl, k1, k2⟩ := abc_sign hd
        refine eg_name ?_
        fail "z"
        refine ⟨⟨_, rfl, k1⟩, ?_⟩
        fail "v1"
        show RD K rIsNotAny _ (.bool (isMach (signM c))) _ _
        rw [k2]
        fail "z"
        exact ⟨_, rfl⟩
      · exact fun e h => h
    rintro e ⟨s8, rfl⟩
    refine cut (fun e => ∃ s9, e = [some (.script p ns), v1, v2, v3, v4, v5, v6, v7, s8, s9, none, none]) ?_ ?_
    · refine es_for (ei_list ?_)
      fail "z"
      refine ⟨fun _ e => ∃ s9, e = [some (.script p ns), v1, v2, v3, v4, v5, v6, v7, s8, s9, none, none], ⟨none, rfl⟩, ?_, ?_⟩
      · rintro m d e hd ⟨s9, rfl⟩
        obtain ⟨k1, k2⟩ := five_ok (m := m) (d := d) hd
        refine eg_name ?_
        fail "z"
        refine ⟨⟨_, rfl, k1⟩, ?_⟩
        fail "v1"
        show RD K rIsNotAny _ (.bool (isMach (someM d))) _ _
        rw [k2]
        fail "z"
        exact ⟨_, rfl⟩
      · exact fun e h => h
    rintro e ⟨s9, rfl⟩
    refine cut (fun e => e = [some (.script p ns), v1, v2, v3, v4, v5, v6, v7, s8, s9, some (.dat farM), none]) ?_ ?_
    · fail "z"
      refine rd_timesT (by simp) (by decide) (by decide) (by decide) ?_
      fail "z"
      rfl
    rintro e rfl
    fail "z"
    refine ⟨⟨_, rfl, far_ok.1⟩, ?_⟩
    fail "v1"
    show RD K rIsAny _ (.bool (isMach farM)) _ _
    rw [far_ok.2]
    fail "z"
    refine ⟨⟨_, rfl, q_ok.1⟩, ?_⟩
    fail "v1"
    show RD K rIsAny _ (.bool (isMach (someM (S "q")))) _ _
    rw [q_ok.2]
    fail "z"
    rfl
end


/-! ### what the top has written -/
theorem all_mk {l : PySem.W.OpenLaw} {w : World} {K : PySem.W.Frag} {h : Heap} {mg : Str → Option Value} {fa f1 f2 f3 f4 f5 f6 f7 f8 f9 f10 f11 f12 f13 f14 f15 f16 f17 f18 f19 f20 f21 f22 f23 f24 f25 f26 f27 f28 f29 f30 f31 f32 : Addr} (X : K.In h) (G : h.Ns mainGlobals mg) (hfa : mg "law" = some (.ref fa))
    {od1 an1 od2 an2 od3 an3 od4 an4 od5 an5 od6 an6 od7 an7 od8 an8 od9 an9 od10 an10 od11 an11 od12 an12 od13 an13 od14 an14 od15 an15 od16 an16 od17 an17 od18 an18 od19 an19 od20 an20 od21 an21 od22 an22 od23 an23 od24 an24 od25 an25 od26 an26 od27 an27 od28 an28 od29 an29 od30 an30 od31 an31 od32 an32 : Option Addr} {sl1 sl2 sl3 sl4 sl5 sl6 sl7 sl8 sl9 sl10 sl11 sl12 sl13 sl14 sl15 sl16 sl17 sl18 sl19 sl20 sl21 sl22 sl23 sl24 sl25 sl26 sl27 sl28 sl29 sl30 sl31 sl32 : Array (Option Value)} {oc1 kV1 dc1 pm1 cd1 ct1 oc2 kV2 dc2 pm2 cd2 ct2 oc3 kV3 dc3 pm3 cd3 ct3 oc4 kV4 dc4 pm4 cd4 ct4 oc5 kV5 dc5 pm5 cd5 ct5 oc6 kV6 dc6 pm6 cd6 ct6 oc7 kV7 dc7 pm7 cd7 ct7 oc8 kV8 dc8 pm8 cd8 ct8 oc9 kV9 dc9 pm9 cd9 ct9 oc10 kV10 dc10 pm10 cd10 ct10 oc11 kV11 dc11 pm11 cd11 ct11 oc12 kV12 dc12 pm12 cd12 ct12 oc13 kV13 dc13 pm13 cd13 ct13 oc14 kV14 dc14 pm14 cd14 ct14 oc15 kV15 dc15 pm15 cd15 ct15 oc16 kV16 dc16 pm16 cd16 ct16 oc17 kV17 dc17 pm17 cd17 ct17 oc18 kV18 dc18 pm18 cd18 ct18 oc19 kV19 dc19 pm19 cd19 ct19 oc20 kV20 dc20 pm20 cd20 ct20 oc21 kV21 dc21 pm21 cd21 ct21 oc22 kV22 dc22 pm22 cd22 ct22 oc23 kV23 dc23 pm23 cd23 ct23 oc24 kV24 dc24 pm24 cd24 ct24 oc25 kV25 dc25 pm25 cd25 ct25 oc26 kV26 dc26 pm26 cd26 ct26 oc27 kV27 dc27 pm27 cd27 ct27 oc28 kV28 dc28 pm28 cd28 ct28 oc29 kV29 dc29 pm29 cd29 ct29 oc30 kV30 dc30 pm30 cd30 ct30 oc31 kV31 dc31 pm31 cd31 ct31 oc32 kV32 dc32 pm32 cd32 ct32 : Value}
    (a1 : PySem.W.nsIn K mainGlobals "is_number" = some (some (.ref f1))) (l1 : K.lookup f1 = some ⟨oc1, od1, .func (PySem.W.fnOf "is_number" "is_number" (defArgs sNum) (defBody sNum) (defScope sNum) .none kV1 dc1 pm1 an1 cd1 ct1), sl1⟩) (c1 : PySem.W.codeIn K cd1 "is_number" = true) (k1 : PySem.W.keepIn K (.ref f1) = true)
    (a2 : PySem.W.nsIn K mainGlobals "is_tuple" = some (some (.ref f2))) (l2 : K.lookup f2 = some ⟨oc2, od2, .func (PySem.W.fnOf "is_tuple" "is_tuple" (defArgs sTup) (defBody sTup) (defScope sTup) .none kV2 dc2 pm2 an2 cd2 ct2), sl2⟩) (c2 : PySem.W.codeIn K cd2 "is_tuple" = true) (k2 : PySem.W.keepIn K (.ref f2) = true)
    (a3 : PySem.W.nsIn K mainGlobals "is_letter" = some (some (.ref f3))) (l3 : K.lookup f3 = some ⟨oc3, od3, .func (PySem.W.fnOf "is_letter" "is_letter" (defArgs sLet) (defBody sLet) (defScope sLet) .none kV3 dc3 pm3 an3 cd3 ct3), sl3⟩) (c3 : PySem.W.codeIn K cd3 "is_letter" = true) (k3 : PySem.W.keepIn K (.ref f3) = true)
    (a4 : PySem.W.nsIn K mainGlobals "_law_mixed" = some (some (.ref f4))) (l4 : K.lookup f4 = some ⟨oc4, od4, .func (PySem.W.fnOf "_law_mixed" "_law_mixed" (defArgs sMix) (defBody sMix) (defScope sMix) .none kV4 dc4 pm4 an4 cd4 ct4), sl4⟩) (c4 : PySem.W.codeIn K cd4 "_law_mixed" = true) (k4 : PySem.W.keepIn K (.ref f4) = true)
    (a5 : PySem.W.nsIn K mainGlobals "_law_whole" = some (some (.ref f5))) (l5 : K.lookup f5 = some ⟨oc5, od5, .func (PySem.W.fnOf "_law_whole" "_law_whole" (defArgs sWhole) (defBody sWhole) (defScope sWhole) .none kV5 dc5 pm5 an5 cd5 ct5), sl5⟩) (c5 : PySem.W.codeIn K cd5 "_law_whole" = true) (k5 : PySem.W.keepIn K (.ref f5) = true)
    (a6 : PySem.W.nsIn K mainGlobals "_law_is_from" = some (some (.ref f6))) (l6 : K.lookup f6 = some ⟨oc6, od6, .func (PySem.W.fnOf "_law_is_from" "_law_is_from" (defArgs sFrom) (defBody sFrom) (defScope sFrom) .none kV6 dc6 pm6 an6 cd6 ct6), sl6⟩) (c6 : PySem.W.codeIn K cd6 "_law_is_from" = true) (k6 : PySem.W.keepIn K (.ref f6) = true)
    (a7 : PySem.W.nsIn K mainGlobals "_law_is_letter" = some (some (.ref f7))) (l7 : K.lookup f7 = some ⟨oc7, od7, .func (PySem.W.fnOf "_law_is_letter" "_law_is_letter" (defArgs sLetL) (defBody sLetL) (defScope sLetL) .none kV7 dc7 pm7 an7 cd7 ct7), sl7⟩) (c7 : PySem.W.codeIn K cd7 "_law_is_letter" = true) (k7 : PySem.W.keepIn K (.ref f7) = true)
    (a8 : PySem.W.nsIn K mainGlobals "_law_take" = some (some (.ref f8))) (l8 : K.lookup f8 = some ⟨oc8, od8, .func (PySem.W.fnOf "_law_take" "_law_take" (defArgs sTake) (defBody sTake) (defScope sTake) .none kV8 dc8 pm8 an8 cd8 ct8), sl8⟩) (c8 : PySem.W.codeIn K cd8 "_law_take" = true) (k8 : PySem.W.keepIn K (.ref f8) = true)
    (a9 : PySem.W.nsIn K mainGlobals "_law_pile" = some (some (.ref f9))) (l9 : K.lookup f9 = some ⟨oc9, od9, .func (PySem.W.fnOf "_law_pile" "_law_pile" (defArgs sPile) (defBody sPile) (defScope sPile) .none kV9 dc9 pm9 an9 cd9 ct9), sl9⟩) (c9 : PySem.W.codeIn K cd9 "_law_pile" = true) (k9 : PySem.W.keepIn K (.ref f9) = true)
    (a10 : PySem.W.nsIn K mainGlobals "_law_letters" = some (some (.ref f10))) (l10 : K.lookup f10 = some ⟨oc10, od10, .func (PySem.W.fnOf "_law_letters" "_law_letters" (defArgs sLtrs) (defBody sLtrs) (defScope sLtrs) .none kV10 dc10 pm10 an10 cd10 ct10), sl10⟩) (c10 : PySem.W.codeIn K cd10 "_law_letters" = true) (k10 : PySem.W.keepIn K (.ref f10) = true)
    (a11 : PySem.W.nsIn K mainGlobals "is_letter_of" = some (some (.ref f11))) (l11 : K.lookup f11 = some ⟨oc11, od11, .func (PySem.W.fnOf "is_letter_of" "is_letter_of" (defArgs sLof) (defBody sLof) (defScope sLof) .none kV11 dc11 pm11 an11 cd11 ct11), sl11⟩) (c11 : PySem.W.codeIn K cd11 "is_letter_of" = true) (k11 : PySem.W.keepIn K (.ref f11) = true)
    (a12 : PySem.W.nsIn K mainGlobals "is_state" = some (some (.ref f12))) (l12 : K.lookup f12 = some ⟨oc12, od12, .func (PySem.W.fnOf "is_state" "is_state" (defArgs sSt) (defBody sSt) (defScope sSt) .none kV12 dc12 pm12 an12 cd12 ct12), sl12⟩) (c12 : PySem.W.codeIn K cd12 "is_state" = true) (k12 : PySem.W.keepIn K (.ref f12) = true)
    (a13 : PySem.W.nsIn K mainGlobals "is_edge" = some (some (.ref f13))) (l13 : K.lookup f13 = some ⟨oc13, od13, .func (PySem.W.fnOf "is_edge" "is_edge" (defArgs sEdge) (defBody sEdge) (defScope sEdge) .none kV13 dc13 pm13 an13 cd13 ct13), sl13⟩) (c13 : PySem.W.codeIn K cd13 "is_edge" = true) (k13 : PySem.W.keepIn K (.ref f13) = true)
    (a14 : PySem.W.nsIn K mainGlobals "is_limit" = some (some (.ref f14))) (l14 : K.lookup f14 = some ⟨oc14, od14, .func (PySem.W.fnOf "is_limit" "is_limit" (defArgs sLim) (defBody sLim) (defScope sLim) .none kV14 dc14 pm14 an14 cd14 ct14), sl14⟩) (c14 : PySem.W.codeIn K cd14 "is_limit" = true) (k14 : PySem.W.keepIn K (.ref f14) = true)
    (a15 : PySem.W.nsIn K mainGlobals "is_step" = some (some (.ref f15))) (l15 : K.lookup f15 = some ⟨oc15, od15, .func (PySem.W.fnOf "is_step" "is_step" (defArgs sStep) (defBody sStep) (defScope sStep) .none kV15 dc15 pm15 an15 cd15 ct15), sl15⟩) (c15 : PySem.W.codeIn K cd15 "is_step" = true) (k15 : PySem.W.keepIn K (.ref f15) = true)
    (a16 : PySem.W.nsIn K mainGlobals "are_states" = some (some (.ref f16))) (l16 : K.lookup f16 = some ⟨oc16, od16, .func (PySem.W.fnOf "are_states" "are_states" (defArgs sSts) (defBody sSts) (defScope sSts) .none kV16 dc16 pm16 an16 cd16 ct16), sl16⟩) (c16 : PySem.W.codeIn K cd16 "are_states" = true) (k16 : PySem.W.keepIn K (.ref f16) = true)
    (a17 : PySem.W.nsIn K mainGlobals "is_letters" = some (some (.ref f17))) (l17 : K.lookup f17 = some ⟨oc17, od17, .func (PySem.W.fnOf "is_letters" "is_letters" (defArgs sLets) (defBody sLets) (defScope sLets) .none kV17 dc17 pm17 an17 cd17 ct17), sl17⟩) (c17 : PySem.W.codeIn K cd17 "is_letters" = true) (k17 : PySem.W.keepIn K (.ref f17) = true)
    (a18 : PySem.W.nsIn K mainGlobals "is_machine" = some (some (.ref f18))) (l18 : K.lookup f18 = some ⟨oc18, od18, .func (PySem.W.fnOf "is_machine" "is_machine" (defArgs sMach) (defBody sMach) (defScope sMach) .none kV18 dc18 pm18 an18 cd18 ct18), sl18⟩) (c18 : PySem.W.codeIn K cd18 "is_machine" = true) (k18 : PySem.W.keepIn K (.ref f18) = true)
    (a19 : PySem.W.nsIn K mainGlobals "_law_rising" = some (some (.ref f19))) (l19 : K.lookup f19 = some ⟨oc19, od19, .func (PySem.W.fnOf "_law_rising" "_law_rising" (defArgs sRise) (defBody sRise) (defScope sRise) .none kV19 dc19 pm19 an19 cd19 ct19), sl19⟩) (c19 : PySem.W.codeIn K cd19 "_law_rising" = true) (k19 : PySem.W.keepIn K (.ref f19) = true)
    (a20 : PySem.W.nsIn K mainGlobals "_law_is_end" = some (some (.ref f20))) (l20 : K.lookup f20 = some ⟨oc20, od20, .func (PySem.W.fnOf "_law_is_end" "_law_is_end" (defArgs sIsEnd) (defBody sIsEnd) (defScope sIsEnd) .none kV20 dc20 pm20 an20 cd20 ct20), sl20⟩) (c20 : PySem.W.codeIn K cd20 "_law_is_end" = true) (k20 : PySem.W.keepIn K (.ref f20) = true)
    (a21 : PySem.W.nsIn K mainGlobals "_law_are_states" = some (some (.ref f21))) (l21 : K.lookup f21 = some ⟨oc21, od21, .func (PySem.W.fnOf "_law_are_states" "_law_are_states" (defArgs sAre) (defBody sAre) (defScope sAre) .none kV21 dc21 pm21 an21 cd21 ct21), sl21⟩) (c21 : PySem.W.codeIn K cd21 "_law_are_states" = true) (k21 : PySem.W.keepIn K (.ref f21) = true)
    (a22 : PySem.W.nsIn K mainGlobals "_law_is_limit" = some (some (.ref f22))) (l22 : K.lookup f22 = some ⟨oc22, od22, .func (PySem.W.fnOf "_law_is_limit" "_law_is_limit" (defArgs sIsLim) (defBody sIsLim) (defScope sIsLim) .none kV22 dc22 pm22 an22 cd22 ct22), sl22⟩) (c22 : PySem.W.codeIn K cd22 "_law_is_limit" = true) (k22 : PySem.W.keepIn K (.ref f22) = true)
    (a23 : PySem.W.nsIn K mainGlobals "_law_is_step" = some (some (.ref f23))) (l23 : K.lookup f23 = some ⟨oc23, od23, .func (PySem.W.fnOf "_law_is_step" "_law_is_step" (defArgs sIsStep) (defBody sIsStep) (defScope sIsStep) .none kV23 dc23 pm23 an23 cd23 ct23), sl23⟩) (c23 : PySem.W.codeIn K cd23 "_law_is_step" = true) (k23 : PySem.W.keepIn K (.ref f23) = true)
    (a24 : PySem.W.nsIn K mainGlobals "_law_is_machine" = some (some (.ref f24))) (l24 : K.lookup f24 = some ⟨oc24, od24, .func (PySem.W.fnOf "_law_is_machine" "_law_is_machine" (defArgs sIsMach) (defBody sIsMach) (defScope sIsMach) .none kV24 dc24 pm24 an24 cd24 ct24), sl24⟩) (c24 : PySem.W.codeIn K cd24 "_law_is_machine" = true) (k24 : PySem.W.keepIn K (.ref f24) = true)
    (a25 : PySem.W.nsIn K mainGlobals "_law_end" = some (some (.ref f25))) (l25 : K.lookup f25 = some ⟨oc25, od25, .func (PySem.W.fnOf "_law_end" "_law_end" (defArgs sMkEnd) (defBody sMkEnd) (defScope sMkEnd) .none kV25 dc25 pm25 an25 cd25 ct25), sl25⟩) (c25 : PySem.W.codeIn K cd25 "_law_end" = true) (k25 : PySem.W.keepIn K (.ref f25) = true)
    (a26 : PySem.W.nsIn K mainGlobals "_law_limit" = some (some (.ref f26))) (l26 : K.lookup f26 = some ⟨oc26, od26, .func (PySem.W.fnOf "_law_limit" "_law_limit" (defArgs sMkLim) (defBody sMkLim) (defScope sMkLim) .none kV26 dc26 pm26 an26 cd26 ct26), sl26⟩) (c26 : PySem.W.codeIn K cd26 "_law_limit" = true) (k26 : PySem.W.keepIn K (.ref f26) = true)
    (a27 : PySem.W.nsIn K mainGlobals "_law_limits" = some (some (.ref f27))) (l27 : K.lookup f27 = some ⟨oc27, od27, .func (PySem.W.fnOf "_law_limits" "_law_limits" (defArgs sMkLims) (defBody sMkLims) (defScope sMkLims) .none kV27 dc27 pm27 an27 cd27 ct27), sl27⟩) (c27 : PySem.W.codeIn K cd27 "_law_limits" = true) (k27 : PySem.W.keepIn K (.ref f27) = true)
    (a28 : PySem.W.nsIn K mainGlobals "_law_machine" = some (some (.ref f28))) (l28 : K.lookup f28 = some ⟨oc28, od28, .func (PySem.W.fnOf "_law_machine" "_law_machine" (defArgs sMkMach) (defBody sMkMach) (defScope sMkMach) .none kV28 dc28 pm28 an28 cd28 ct28), sl28⟩) (c28 : PySem.W.codeIn K cd28 "_law_machine" = true) (k28 : PySem.W.keepIn K (.ref f28) = true)
    (a29 : PySem.W.nsIn K mainGlobals "_law_bad_limits" = some (some (.ref f29))) (l29 : K.lookup f29 = some ⟨oc29, od29, .func (PySem.W.fnOf "_law_bad_limits" "_law_bad_limits" (defArgs sBadL) (defBody sBadL) (defScope sBadL) .none kV29 dc29 pm29 an29 cd29 ct29), sl29⟩) (c29 : PySem.W.codeIn K cd29 "_law_bad_limits" = true) (k29 : PySem.W.keepIn K (.ref f29) = true)
    (a30 : PySem.W.nsIn K mainGlobals "_law_bad_machines" = some (some (.ref f30))) (l30 : K.lookup f30 = some ⟨oc30, od30, .func (PySem.W.fnOf "_law_bad_machines" "_law_bad_machines" (defArgs sBadM) (defBody sBadM) (defScope sBadM) .none kV30 dc30 pm30 an30 cd30 ct30), sl30⟩) (c30 : PySem.W.codeIn K cd30 "_law_bad_machines" = true) (k30 : PySem.W.keepIn K (.ref f30) = true)
    (a31 : PySem.W.nsIn K mainGlobals "_law_bent" = some (some (.ref f31))) (l31 : K.lookup f31 = some ⟨oc31, od31, .func (PySem.W.fnOf "_law_bent" "_law_bent" (defArgs sBent) (defBody sBent) (defScope sBent) .none kV31 dc31 pm31 an31 cd31 ct31), sl31⟩) (c31 : PySem.W.codeIn K cd31 "_law_bent" = true) (k31 : PySem.W.keepIn K (.ref f31) = true)
    (a32 : PySem.W.nsIn K mainGlobals "law" = some (some (.ref f32))) (l32 : K.lookup f32 = some ⟨oc32, od32, .func (PySem.W.fnOf "law" "law" (defArgs sLaw) (defBody sLaw) (defScope sLaw) .none kV32 dc32 pm32 an32 cd32 ct32), sl32⟩) (c32 : PySem.W.codeIn K cd32 "law" = true) (k32 : PySem.W.keepIn K (.ref f32) = true)
    (z1 : PySem.W.nsIn K mainGlobals "len" = some none) (z2 : PySem.W.nsIn K mainGlobals "isinstance" = some none) (z3 : PySem.W.nsIn K mainGlobals "int" = some none) (z4 : PySem.W.nsIn K mainGlobals "bool" = some none) (z5 : PySem.W.nsIn K mainGlobals "str" = some none) (z6 : PySem.W.nsIn K mainGlobals "tuple" = some none) (z7 : PySem.W.nsIn K mainGlobals "list" = some none) (z8 : PySem.W.nsIn K mainGlobals "all" = some none) (z9 : PySem.W.nsIn K mainGlobals "repr" = some none) (z10 : PySem.W.nsIn K mainGlobals "sum" = some none) (z11 : PySem.W.nsIn K mainGlobals "min" = some none) (z12 : PySem.W.nsIn K mainGlobals "max" = some none) (z13 : PySem.W.nsIn K mainGlobals "range" = some none) (z14 : PySem.W.nsIn K mainGlobals "set" = some none) (z15 : PySem.W.nsIn K mainGlobals "sorted" = some none) :
    ∃ fd : FuncData, (∀ (s : Shared) (v : Value), BindsTo s fd ⟨[v], []⟩ [("script", v)]) ∧ ∀ base : Heap, K.In base → base.Ns mainGlobals mg → FnG l.prog w K mg base 10 fa fd ["script"] (spL K) := by
  have e := hfa.symm.trans (PySem.W.mg_of X G a32)
  cases e
  have bi : Bi mg := ⟨PySem.W.mg_none_of X G z1, PySem.W.mg_none_of X G z2, PySem.W.mg_none_of X G z3, PySem.W.mg_none_of X G z4, PySem.W.mg_none_of X G z5, PySem.W.mg_none_of X G z6, PySem.W.mg_none_of X G z7, PySem.W.mg_none_of X G z8, PySem.W.mg_none_of X G z9, PySem.W.mg_none_of X G z10, PySem.W.mg_none_of X G z11, PySem.W.mg_none_of X G z12, PySem.W.mg_none_of X G z13⟩
  have bx : FD.Bi2 mg := ⟨PySem.W.mg_none_of X G z14, PySem.W.mg_none_of X G z15⟩
  have F1 := fun_mk (st := sNum) l1 c1 k1
  have F2 := fun_mk (st := sTup) l2 c2 k2
  have F3 := fun_mk (st := sLet) l3 c3 k3
  have F4 := fun_mk (st := sMix) l4 c4 k4
  have F5 := fun_mk (st := sWhole) l5 c5 k5
  have F6 := fun_mk (st := sFrom) l6 c6 k6
  have F7 := fun_mk (st := sLetL) l7 c7 k7
  have F8 := fun_mk (st := sTake) l8 c8 k8
  have F9 := fun_mk (st := sPile) l9 c9 k9
  have F10 := fun_mk (st := sLtrs) l10 c10 k10
  have F11 := fun_mk (st := sLof) l11 c11 k11
  have F12 := fun_mk (st := sSt) l12 c12 k12
  have F13 := fun_mk (st := sEdge) l13 c13 k13
  have F14 := fun_mk (st := sLim) l14 c14 k14
  have F15 := fun_mk (st := sStep) l15 c15 k15
  have F16 := fun_mk (st := sSts) l16 c16 k16
  have F17 := fun_mk (st := sLets) l17 c17 k17
  have F18 := fun_mk (st := sMach) l18 c18 k18
  have F19 := fun_mk (st := sRise) l19 c19 k19
  have F20 := fun_mk (st := sIsEnd) l20 c20 k20
  have F21 := fun_mk (st := sAre) l21 c21 k21
  have F22 := fun_mk (st := sIsLim) l22 c22 k22
  have F23 := fun_mk (st := sIsStep) l23 c23 k23
  have F24 := fun_mk (st := sIsMach) l24 c24 k24
  have F25 := fun_mk (st := sMkEnd) l25 c25 k25
  have F26 := fun_mk (st := sMkLim) l26 c26 k26
  have F27 := fun_mk (st := sMkLims) l27 c27 k27
  have F28 := fun_mk (st := sMkMach) l28 c28 k28
  have F29 := fun_mk (st := sBadL) l29 c29 k29
  have F30 := fun_mk (st := sBadM) l30 c30 k30
  have F31 := fun_mk (st := sBent) l31 c31 k31
  have F32 := fun_mk (st := sLaw) l32 c32 k32
  have b1 := F1.binds (ps := ["thing", "least"]) fun _ _ _ _ _ _ us hl => match us, hl with | [_, _], _ => rfl
  have b2 := F2.binds (ps := ["thing", "size"]) fun _ _ _ _ _ _ us hl => match us, hl with | [_, _], _ => rfl
  have b3 := F3.binds (ps := ["thing"]) fun _ _ _ _ _ _ us hl => match us, hl with | [_], _ => rfl
  have b4 := F4.binds (ps := ["cell", "k"]) fun _ _ _ _ _ _ us hl => match us, hl with | [_, _], _ => rfl
  have b5 := F5.binds (ps := ["thing"]) fun _ _ _ _ _ _ us hl => match us, hl with | [_], _ => rfl
  have b6 := F6.binds (ps := ["thing", "low"]) fun _ _ _ _ _ _ us hl => match us, hl with | [_, _], _ => rfl
  have b7 := F7.binds (ps := ["thing"]) fun _ _ _ _ _ _ us hl => match us, hl with | [_], _ => rfl
  have b8 := F8.binds (ps := ["pile", "size"]) fun _ _ _ _ _ _ us hl => match us, hl with | [_, _], _ => rfl
  have b9 := F9.binds (ps := ["script", "k"]) fun _ _ _ _ _ _ us hl => match us, hl with | [_, _], _ => rfl
  have b10 := F10.binds (ps := ["pile"]) fun _ _ _ _ _ _ us hl => match us, hl with | [_], _ => rfl
  have b11 := F11.binds (ps := ["thing", "letters"]) fun _ _ _ _ _ _ us hl => match us, hl with | [_, _], _ => rfl
  have b12 := F12.binds (ps := ["thing", "many"]) fun _ _ _ _ _ _ us hl => match us, hl with | [_, _], _ => rfl
  have b13 := F13.binds (ps := ["thing"]) fun _ _ _ _ _ _ us hl => match us, hl with | [_], _ => rfl
  have b14 := F14.binds (ps := ["thing", "letters"]) fun _ _ _ _ _ _ us hl => match us, hl with | [_, _], _ => rfl
  have b15 := F15.binds (ps := ["thing", "letters", "many"]) fun _ _ _ _ _ _ us hl => match us, hl with | [_, _, _], _ => rfl
  have b16 := F16.binds (ps := ["thing", "many"]) fun _ _ _ _ _ _ us hl => match us, hl with | [_, _], _ => rfl
  have b17 := F17.binds (ps := ["thing"]) fun _ _ _ _ _ _ us hl => match us, hl with | [_], _ => rfl
  have b18 := F18.binds (ps := ["thing"]) fun _ _ _ _ _ _ us hl => match us, hl with | [_], _ => rfl
  have b19 := F19.binds (ps := ["things"]) fun _ _ _ _ _ _ us hl => match us, hl with | [_], _ => rfl
  have b20 := F20.binds (ps := ["thing"]) fun _ _ _ _ _ _ us hl => match us, hl with | [_], _ => rfl
  have b21 := F21.binds (ps := ["many", "thing"]) fun _ _ _ _ _ _ us hl => match us, hl with | [_, _], _ => rfl
  have b22 := F22.binds (ps := ["letters", "thing"]) fun _ _ _ _ _ _ us hl => match us, hl with | [_, _], _ => rfl
  have b23 := F23.binds (ps := ["letters", "many", "thing"]) fun _ _ _ _ _ _ us hl => match us, hl with | [_, _, _], _ => rfl
  have b24 := F24.binds (ps := ["thing"]) fun _ _ _ _ _ _ us hl => match us, hl with | [_], _ => rfl
  have b25 := F25.binds (ps := ["pile", "m"]) fun _ _ _ _ _ _ us hl => match us, hl with | [_, _], _ => rfl
  have b26 := F26.binds (ps := ["pile", "letters", "m"]) fun _ _ _ _ _ _ us hl => match us, hl with | [_, _, _], _ => rfl
  have b27 := F27.binds (ps := ["pile", "letters", "m"]) fun _ _ _ _ _ _ us hl => match us, hl with | [_, _, _], _ => rfl
  have b28 := F28.binds (ps := ["pile", "letters", "m", "most"]) fun _ _ _ _ _ _ us hl => match us, hl with | [_, _, _, _], _ => rfl
  have b29 := F29.binds (ps := []) fun _ _ _ _ _ _ us hl => match us, hl with | [], _ => rfl
  have b30 := F30.binds (ps := []) fun _ _ _ _ _ _ us hl => match us, hl with | [], _ => rfl
  have b31 := F31.binds (ps := ["pile", "thing", "deep"]) fun _ _ _ _ _ _ us hl => match us, hl with | [_, _, _], _ => rfl
  refine ⟨PySem.W.fnOf "law" "law" (defArgs sLaw) (defBody sLaw) (defScope sLaw) .none kV32 dc32 pm32 an32 cd32 ct32, fun s v => .of_eq rfl, fun base _ _ => ?_⟩
  have C1 : Cal l.prog w K mg base 1 "is_number" ["thing", "least"] (spF 2 (fun ds => ∃ d j, ds = [d, .int j]) fNum) := ⟨⟨_, _, ok_num F1 bi, PySem.W.mg_of X G a1, k1, b1⟩⟩
  have C2 : Cal l.prog w K mg base 1 "is_tuple" ["thing", "size"] (spF 2 (fun ds => ∃ d j, ds = [d, .int j]) fTup) := ⟨⟨_, _, ok_tup F2 bi, PySem.W.mg_of X G a2, k2, b2⟩⟩
  have C3 : Cal l.prog w K mg base 1 "is_letter" ["thing"] (spF 1 (fun ds => ∃ d, ds = [d] ∧ sm d = true) fLet) := ⟨⟨_, _, ok_let F3 bi, PySem.W.mg_of X G a3, k3, b3⟩⟩
  have C4 : Cal l.prog w K mg base 1 "_law_mixed" ["cell", "k"] (spD 2 preII postI) := ⟨⟨_, _, ok_mix F4 bi, PySem.W.mg_of X G a4, k4, b4⟩⟩
  have C5 : Cal l.prog w K mg base 1 "_law_whole" ["thing"] (spF 1 (fun ds => ∃ d, ds = [d]) fWhole) := ⟨⟨_, _, ok_whole F5 bi, PySem.W.mg_of X G a5, k5, b5⟩⟩
  have C6 : Cal l.prog w K mg base 2 "_law_is_from" ["thing", "low"] (spF 2 preN fNum) := ⟨⟨_, _, ok_from F6 bi C5, PySem.W.mg_of X G a6, k6, b6⟩⟩
  have C7 : Cal l.prog w K mg base 1 "_law_is_letter" ["thing"] (spF 1 preD fLet) := ⟨⟨_, _, ok_letL F7 bi, PySem.W.mg_of X G a7, k7, b7⟩⟩
  have C8 : Cal l.prog w K mg base 2 "_law_take" ["pile", "size"] (spP 1 preT postT) := ⟨⟨_, _, ok_take F8 bi C4, PySem.W.mg_of X G a8, k8, b8⟩⟩
  have C9 : Cal l.prog w K mg base 2 "_law_pile" ["script", "k"] (spN K) := ⟨⟨_, _, ok_pile F9 bi C4, PySem.W.mg_of X G a9, k9, b9⟩⟩
  have C10 : Cal l.prog w K mg base 3 "_law_letters" ["pile"] (spP 0 (fun ds => ds = []) fun _ d => d = .str "a" ∨ d = .str "ab") := ⟨⟨_, _, ok_ltrs F10 bi C8, PySem.W.mg_of X G a10, k10, b10⟩⟩
  have C11 : Cal l.prog w K mg base 2 "is_letter_of" ["thing", "letters"] (spF 2 preLo fLof) := ⟨⟨_, _, ok_lof F11 bi C3, PySem.W.mg_of X G a11, k11, b11⟩⟩
  have C12 : Cal l.prog w K mg base 2 "is_state" ["thing", "many"] (spF 2 preN fSt) := ⟨⟨_, _, ok_st F12 bi C1, PySem.W.mg_of X G a12, k12, b12⟩⟩
  have C13 : Cal l.prog w K mg base 2 "is_edge" ["thing"] (spF 1 preD fEdge) := ⟨⟨_, _, ok_edge F13 bi C1 C2, PySem.W.mg_of X G a13, k13, b13⟩⟩
  have C14 : Cal l.prog w K mg base 3 "is_limit" ["thing", "letters"] (spF 2 preLi fLim) := ⟨⟨_, _, ok_lim F14 bi C2 C11 C13, PySem.W.mg_of X G a14, k14, b14⟩⟩
  have C15 : Cal l.prog w K mg base 4 "is_step" ["thing", "letters", "many"] (spF 3 preSt fStep) := ⟨⟨_, _, ok_step F15 bi C2 C11 C12 C14, PySem.W.mg_of X G a15, k15, b15⟩⟩
  have C16 : Cal l.prog w K mg base 3 "are_states" ["thing", "many"] (spF 2 preSs fSts) := ⟨⟨_, _, ok_sts F16 bi C12, PySem.W.mg_of X G a16, k16, b16⟩⟩
  have C17 : Cal l.prog w K mg base 2 "is_letters" ["thing"] (spF 1 preD fLets) := ⟨⟨_, _, ok_lets F17 bi bx C3, PySem.W.mg_of X G a17, k17, b17⟩⟩
  have C18 : Cal l.prog w K mg base 5 "is_machine" ["thing"] (spF 1 preMa fMach) := ⟨⟨_, _, ok_mach F18 bi C2 C17 C1 C16 C15, PySem.W.mg_of X G a18, k18, b18⟩⟩
  have C19 : Cal l.prog w K mg base 1 "_law_rising" ["things"] (spF 1 preRi fRise) := ⟨⟨_, _, ok_rise F19 bi, PySem.W.mg_of X G a19, k19, b19⟩⟩
  have C20 : Cal l.prog w K mg base 3 "_law_is_end" ["thing"] (spF 1 preD fEdge) := ⟨⟨_, _, ok_isend F20 bi C6, PySem.W.mg_of X G a20, k20, b20⟩⟩
  have C21 : Cal l.prog w K mg base 3 "_law_are_states" ["many", "thing"] (spF 2 preAr fAre) := ⟨⟨_, _, ok_are F21 bi C6 C19, PySem.W.mg_of X G a21, k21, b21⟩⟩
  have C22 : Cal l.prog w K mg base 4 "_law_is_limit" ["letters", "thing"] (spF 2 preIl fIsLim) := ⟨⟨_, _, ok_islim F22 bi C7 C20, PySem.W.mg_of X G a22, k22, b22⟩⟩
  have C23 : Cal l.prog w K mg base 5 "_law_is_step" ["letters", "many", "thing"] (spF 3 preIs fIsStep) := ⟨⟨_, _, ok_isstep F23 bi C7 C21 C22, PySem.W.mg_of X G a23, k23, b23⟩⟩
  have C24 : Cal l.prog w K mg base 6 "_law_is_machine" ["thing"] (spF 1 preMa fMach) := ⟨⟨_, _, ok_ismach F24 bi C7 C19 C6 C21 C23, PySem.W.mg_of X G a24, k24, b24⟩⟩
  have C25 : Cal l.prog w K mg base 3 "_law_end" ["pile", "m"] (spP 1 preME postME) := ⟨⟨_, _, ok_mkend F25 bi C8, PySem.W.mg_of X G a25, k25, b25⟩⟩
  have C26 : Cal l.prog w K mg base 4 "_law_limit" ["pile", "letters", "m"] (spP 2 preML postML) := ⟨⟨_, _, ok_mklim F26 bi C8 C25, PySem.W.mg_of X G a26, k26, b26⟩⟩
  have C27 : Cal l.prog w K mg base 5 "_law_limits" ["pile", "letters", "m"] (spP 2 preML postMLs) := ⟨⟨_, _, ok_mklims F27 bi C8 C26, PySem.W.mg_of X G a27, k27, b27⟩⟩
  have C28 : Cal l.prog w K mg base 6 "_law_machine" ["pile", "letters", "m", "most"] (spP 3 preMM postMM) := ⟨⟨_, _, ok_mkmach F28 bi C8 C27, PySem.W.mg_of X G a28, k28, b28⟩⟩
  have C29 : Cal l.prog w K mg base 1 "_law_bad_limits" [] (spF 0 (fun ds => ds = []) fun _ => .list badLims) := ⟨⟨_, _, ok_badL F29 bi, PySem.W.mg_of X G a29, k29, b29⟩⟩
  have C30 : Cal l.prog w K mg base 2 "_law_bad_machines" [] (spF 0 (fun ds => ds = []) fun _ => .list badMachs) := ⟨⟨_, _, ok_badM F30 bi C29, PySem.W.mg_of X G a30, k30, b30⟩⟩
  have E0 : Cal l.prog w K mg base 2 "_law_bent" ["pile", "thing", "deep"] (spP 2 (fun _ => False) (postB 0)) := ⟨⟨_, _, bent_none F31, PySem.W.mg_of X G a31, k31, b31⟩⟩
  have E1 : Cal l.prog w K mg base 3 "_law_bent" ["pile", "thing", "deep"] (spP 2 (preB 0) (postB 0)) := ⟨⟨_, _, bent_step (n := 0) F31 bi (by decide) (by decide) C8 E0 (.inl rfl), PySem.W.mg_of X G a31, k31, b31⟩⟩
  have E2 : Cal l.prog w K mg base 4 "_law_bent" ["pile", "thing", "deep"] (spP 2 (preB 1) (postB 1)) := ⟨⟨_, _, bent_step (n := 1) F31 bi (by decide) (by decide) C8 E1 (.inr ⟨0, rfl, rfl, rfl⟩), PySem.W.mg_of X G a31, k31, b31⟩⟩
  have E3 : Cal l.prog w K mg base 5 "_law_bent" ["pile", "thing", "deep"] (spP 2 (preB 2) (postB 2)) := ⟨⟨_, _, bent_step (n := 2) F31 bi (by decide) (by decide) C8 E2 (.inr ⟨1, rfl, rfl, rfl⟩), PySem.W.mg_of X G a31, k31, b31⟩⟩
  have E4 : Cal l.prog w K mg base 6 "_law_bent" ["pile", "thing", "deep"] (spP 2 (preB 3) (postB 3)) := ⟨⟨_, _, bent_step (n := 3) F31 bi (by decide) (by decide) C8 E3 (.inr ⟨2, rfl, rfl, rfl⟩), PySem.W.mg_of X G a31, k31, b31⟩⟩
  have E5 : Cal l.prog w K mg base 7 "_law_bent" ["pile", "thing", "deep"] (spP 2 (preB 4) (postB 4)) := ⟨⟨_, _, bent_step (n := 4) F31 bi (by decide) (by decide) C8 E4 (.inr ⟨3, rfl, rfl, rfl⟩), PySem.W.mg_of X G a31, k31, b31⟩⟩
  have E6 : Cal l.prog w K mg base 8 "_law_bent" ["pile", "thing", "deep"] (spP 2 (preB 5) (postB 5)) := ⟨⟨_, _, bent_step (n := 5) F31 bi (by decide) (by decide) C8 E5 (.inr ⟨4, rfl, rfl, rfl⟩), PySem.W.mg_of X G a31, k31, b31⟩⟩
  have E7 : Cal l.prog w K mg base 9 "_law_bent" ["pile", "thing", "deep"] (spP 2 (preB 6) (postB 6)) := ⟨⟨_, _, bent_step (n := 6) F31 bi (by decide) (by decide) C8 E6 (.inr ⟨5, rfl, rfl, rfl⟩), PySem.W.mg_of X G a31, k31, b31⟩⟩
  have C31 := E7
  exact ok_law F32 bi C18 C24 C9 C10 C28 C31 C30

end K02
open PySem PySem.W PyProof.Rows
set_option maxHeartbeats 0 in
theorem PySem.Challenge.cw_sinceclocks_k02_what_is_a_machine_holds : PySem.Challenge.rw_sinceclocks_k02_what_is_a_machine.Holds := by
  w_on; o_law; k_head; (case hw => w_witness2)
  k_fill
  refine FD.walkG (k := 10) (x := "script") rfl rfl ⟨rfl, by decide, by decide⟩ (fun w h Y => PySem.W.kIn_of Y) ?F
  case F =>
    intro w mg fa h KX G hmg
    refine' K02.all_mk KX G hmg ?a1 ?l1 ?c1 ?k1 ?a2 ?l2 ?c2 ?k2 ?a3 ?l3 ?c3 ?k3 ?a4 ?l4 ?c4 ?k4 ?a5 ?l5 ?c5 ?k5 ?a6 ?l6 ?c6 ?k6 ?a7 ?l7 ?c7 ?k7 ?a8 ?l8 ?c8 ?k8 ?a9 ?l9 ?c9 ?k9 ?a10 ?l10 ?c10 ?k10 ?a11 ?l11 ?c11 ?k11 ?a12 ?l12 ?c12 ?k12 ?a13 ?l13 ?c13 ?k13 ?a14 ?l14 ?c14 ?k14 ?a15 ?l15 ?c15 ?k15 ?a16 ?l16 ?c16 ?k16 ?a17 ?l17 ?c17 ?k17 ?a18 ?l18 ?c18 ?k18 ?a19 ?l19 ?c19 ?k19 ?a20 ?l20 ?c20 ?k20 ?a21 ?l21 ?c21 ?k21 ?a22 ?l22 ?c22 ?k22 ?a23 ?l23 ?c23 ?k23 ?a24 ?l24 ?c24 ?k24 ?a25 ?l25 ?c25 ?k25 ?a26 ?l26 ?c26 ?k26 ?a27 ?l27 ?c27 ?k27 ?a28 ?l28 ?c28 ?k28 ?a29 ?l29 ?c29 ?k29 ?a30 ?l30 ?c30 ?k30 ?a31 ?l31 ?c31 ?k31 ?a32 ?l32 ?c32 ?k32 ?z1 ?z2 ?z3 ?z4 ?z5 ?z6 ?z7 ?z8 ?z9 ?z10 ?z11 ?z12 ?z13 ?z14 ?z15
    (case a1 => k_is); (case l1 => k_is); (case c1 => k_is); (case k1 => k_is); (case a2 => k_is); (case l2 => k_is); (case c2 => k_is); (case k2 => k_is); (case a3 => k_is); (case l3 => k_is); (case c3 => k_is); (case k3 => k_is); (case a4 => k_is); (case l4 => k_is); (case c4 => k_is); (case k4 => k_is); (case a5 => k_is); (case l5 => k_is); (case c5 => k_is); (case k5 => k_is); (case a6 => k_is); (case l6 => k_is); (case c6 => k_is); (case k6 => k_is); (case a7 => k_is); (case l7 => k_is); (case c7 => k_is); (case k7 => k_is); (case a8 => k_is); (case l8 => k_is); (case c8 => k_is); (case k8 => k_is); (case a9 => k_is); (case l9 => k_is); (case c9 => k_is); (case k9 => k_is); (case a10 => k_is); (case l10 => k_is); (case c10 => k_is); (case k10 => k_is); (case a11 => k_is); (case l11 => k_is); (case c11 => k_is); (case k11 => k_is); (case a12 => k_is); (case l12 => k_is); (case c12 => k_is); (case k12 => k_is); (case a13 => k_is); (case l13 => k_is); (case c13 => k_is); (case k13 => k_is); (case a14 => k_is); (case l14 => k_is); (case c14 => k_is); (case k14 => k_is); (case a15 => k_is); (case l15 => k_is); (case c15 => k_is); (case k15 => k_is); (case a16 => k_is); (case l16 => k_is); (case c16 => k_is); (case k16 => k_is); (case a17 => k_is); (case l17 => k_is); (case c17 => k_is); (case k17 => k_is); (case a18 => k_is); (case l18 => k_is); (case c18 => k_is); (case k18 => k_is); (case a19 => k_is); (case l19 => k_is); (case c19 => k_is); (case k19 => k_is); (case a20 => k_is); (case l20 => k_is); (case c20 => k_is); (case k20 => k_is); (case a21 => k_is); (case l21 => k_is); (case c21 => k_is); (case k21 => k_is); (case a22 => k_is); (case l22 => k_is); (case c22 => k_is); (case k22 => k_is); (case a23 => k_is); (case l23 => k_is); (case c23 => k_is); (case k23 => k_is); (case a24 => k_is); (case l24 => k_is); (case c24 => k_is); (case k24 => k_is); (case a25 => k_is); (case l25 => k_is); (case c25 => k_is); (case k25 => k_is); (case a26 => k_is); (case l26 => k_is); (case c26 => k_is); (case k26 => k_is); (case a27 => k_is); (case l27 => k_is); (case c27 => k_is); (case k27 => k_is); (case a28 => k_is); (case l28 => k_is); (case c28 => k_is); (case k28 => k_is); (case a29 => k_is); (case l29 => k_is); (case c29 => k_is); (case k29 => k_is); (case a30 => k_is); (case l30 => k_is); (case c30 => k_is); (case k30 => k_is); (case a31 => k_is); (case l31 => k_is); (case c31 => k_is); (case k31 => k_is); (case a32 => k_is); (case l32 => k_is); (case c32 => k_is); (case k32 => k_is); (case z1 => k_is); (case z2 => k_is); (case z3 => k_is); (case z4 => k_is); (case z5 => k_is); (case z6 => k_is); (case z7 => k_is); (case z8 => k_is); (case z9 => k_is); (case z10 => k_is); (case z11 => k_is); (case z12 => k_is); (case z13 => k_is); (case z14 => k_is); (case z15 => k_is)
