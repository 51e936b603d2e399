import PyProof.Rows.All
import Wide.All
import OpenK.AllK
import Wide.FinOn
import PyProof.ReprRoads
import HandS.ForMost
import HandS.Style
import HandS.IsInst
import HandS.TupAny
import HandS.TupMul
import HandS.Wide
import PySem.Challenge.RW_sinceclocks_k01_what_is_a_row
set_option Elab.async false
set_option linter.all false
set_option Elab.async false
set_option linter.all false
set_option maxRecDepth 100000
set_option maxHeartbeats 2000000
namespace FD
open PySem PySem.Spec PyProof.Rows L2

/-- a dict's key as data -/
def kD : Key → PyData
  | .inl i => .int i
  | .inr x => .str x
mutual
/-- data that stands in the tracked heap -/
inductive Dd (H : Hp) : V → PyData → Prop
  | non : Dd H .non .none
  | bl (b : Bool) : Dd H (.bl b) (.bool b)
  | int (i : Int) : Dd H (.int i) (.int i)
  | str (x : Str) : Dd H (.str x) (.str x)
  | lst {a : Addr} {xs : List V} {ds : List PyData} : H a = some (.lst xs) → DdAll H xs ds → Dd H (.ref a) (.list ds)
  | tup {a : Addr} {xs : List V} {ds : List PyData} : H a = some (.tup xs) → DdAll H xs ds → Dd H (.ref a) (.tuple ds)
  | dct {a : Addr} {kvs : List (Key × V)} {ds : List (PyData × PyData)} : H a = some (.dK kvs) → DdKv H kvs ds → Dd H (.ref a) (.dict ds)
inductive DdAll (H : Hp) : List V → List PyData → Prop
  | nil : DdAll H [] []
  | cons {v : V} {vs : List V} {d : PyData} {ds : List PyData} : Dd H v d → DdAll H vs ds → DdAll H (v :: vs) (d :: ds)
inductive DdKv (H : Hp) : List (Key × V) → List (PyData × PyData) → Prop
  | nil : DdKv H [] []
  | cons {k : Key} {v : V} {vs : List (Key × V)} {d : PyData} {ds : List (PyData × PyData)} : Dd H v d → DdKv H vs ds → DdKv H ((k, v) :: vs) ((kD k, d) :: ds)
end
/-- a heap that knows more -/
def Ex (H H' : Hp) : Prop := ∀ a o, H a = some o → H' a = some o
theorem Ex.refl (H : Hp) : Ex H H := fun _ _ h => h
theorem Ex.trans {H H1 H2 : Hp} (a : Ex H H1) (b : Ex H1 H2) : Ex H H2 := fun x o h => b x o (a x o h)
theorem Ex.new {H : Hp} {p : Addr} {o : HO} (h : H p = none) : Ex H (upd H p o) := fun a u e => by
  rw [upd_ne (ne_of_none e h)]
  exact e
theorem Ex.fresh {H H' : Hp} {p : Addr} (e : Ex H H') (h : H' p = none) : H p = none := by
  cases h1 : H p with
  | none => rfl
  | some o => rw [e p o h1] at h; cases h

section
variable {H H' : Hp}
mutual
theorem Dd.mono (e : Ex H H') : ∀ (d : PyData) (v : V), Dd H v d → Dd H' v d
  | .none, _, h => by cases h; exact .non
  | .bool b, _, h => by cases h; exact .bl b
  | .int i, _, h => by cases h; exact .int i
  | .str x, _, h => by cases h; exact .str x
  | .list ds, _, h => by
    cases h with
    | lst h1 h2 => exact .lst (e _ _ h1) (DdAll.mono e ds _ h2)
  | .tuple ds, _, h => by
    cases h with
    | tup h1 h2 => exact .tup (e _ _ h1) (DdAll.mono e ds _ h2)
  | .dict ds, _, h => by
    cases h with
    | dct h1 h2 => exact .dct (e _ _ h1) (DdKv.mono e ds _ h2)
theorem DdAll.mono (e : Ex H H') : ∀ (ds : List PyData) (vs : List V), DdAll H vs ds → DdAll H' vs ds
  | [], _, h => by cases h; exact .nil
  | d :: ds, _, h => by
    cases h with
    | cons h1 h2 => exact .cons (Dd.mono e d _ h1) (DdAll.mono e ds _ h2)
theorem DdKv.mono (e : Ex H H') : ∀ (ds : List (PyData × PyData)) (vs : List (Key × V)), DdKv H vs ds → DdKv H' vs ds
  | [], _, h => by cases h; exact .nil
  | (k, d) :: ds, _, h => by
    cases h with
    | cons h1 h2 => exact .cons (Dd.mono e d _ h1) (DdKv.mono e ds _ h2)
end
theorem Dd.ex {v : V} {d : PyData} (h : Dd H v d) (e : Ex H H') : Dd H' v d := Dd.mono e d v h
theorem DdAll.ex {vs : List V} {ds : List PyData} (h : DdAll H vs ds) (e : Ex H H') : DdAll H' vs ds := DdAll.mono e ds vs h
theorem DdKv.ex {vs : List (Key × V)} {ds : List (PyData × PyData)} (h : DdKv H vs ds) (e : Ex H H') : DdKv H' vs ds := DdKv.mono e ds vs h
theorem DdAll.length : ∀ {vs : List V} {ds : List PyData}, DdAll H vs ds → vs.length = ds.length
  | _, _, .nil => rfl
  | _, _, .cons _ t => by simp [DdAll.length t]
theorem DdAll.get : ∀ {vs : List V} {ds : List PyData} {i : Nat} {d : PyData}, DdAll H vs ds → ds[i]? = some d → ∃ v, vs[i]? = some v ∧ Dd H v d
  | _, _, _, _, .nil, e => by simp at e
  | _, _, 0, _, .cons r _, e => by simp at e; subst e; exact ⟨_, rfl, r⟩
  | _, _, i + 1, d, .cons _ t, e => by
    obtain ⟨u, h1, h2⟩ := DdAll.get (i := i) (d := d) t (by simpa using e)
    exact ⟨u, by simpa using h1, h2⟩
theorem DdAll.append : ∀ {vs ws : List V} {ds es : List PyData}, DdAll H vs ds → DdAll H ws es → DdAll H (vs ++ ws) (ds ++ es)
  | _, _, _, _, .nil, h => h
  | _, _, _, _, .cons r t, h => .cons r (DdAll.append t h)
theorem DdAll.take : ∀ {vs : List V} {ds : List PyData} (n : Nat), DdAll H vs ds → DdAll H (vs.take n) (ds.take n)
  | _, _, 0, _ => .nil
  | _, _, _ + 1, .nil => .nil
  | _, _, n + 1, .cons r t => .cons r (DdAll.take n t)
theorem DdAll.drop : ∀ {vs : List V} {ds : List PyData} (n : Nat), DdAll H vs ds → DdAll H (vs.drop n) (ds.drop n)
  | _, _, 0, h => h
  | _, _, _ + 1, .nil => .nil
  | _, _, n + 1, .cons _ t => DdAll.drop n t
theorem DdAll.reverse {vs : List V} {ds : List PyData} (h : DdAll H vs ds) : DdAll H vs.reverse ds.reverse := by
  induction vs generalizing ds with
  | nil => cases h; exact .nil
  | cons v vs ih =>
    cases h with
    | cons h1 h2 =>
      rw [List.reverse_cons, List.reverse_cons]
      exact (ih h2).append (.cons h1 .nil)
theorem DdAll.rep {vs : List V} {ds : List PyData} (h : DdAll H vs ds) : ∀ k, DdAll H (List.replicate k vs).flatten (List.replicate k ds).flatten
  | 0 => .nil
  | k + 1 => by
    rw [List.replicate_succ, List.replicate_succ, List.flatten_cons, List.flatten_cons]
    exact h.append (DdAll.rep h k)
mutual
def noDict : PyData → Bool
  | .dict _ => false
  | .list ds => noDictAll ds
  | .tuple ds => noDictAll ds
  | _ => true
def noDictAll : List PyData → Bool
  | [] => true
  | d :: ds => noDict d && noDictAll ds
end
mutual
theorem Dd.dp {K : PySem.W.Frag} : ∀ (d : PyData) (v : V), noDict d = true → Dd H v d → Dp K H v d
  | .none, _, _, h => by cases h; exact .non
  | .bool b, _, _, h => by cases h; exact .bl b
  | .int i, _, _, h => by cases h; exact .int i
  | .str x, _, _, h => by cases h; exact .str x
  | .list ds, _, n, h => by
    cases h with
    | lst h1 h2 => exact .lst (SqL.of h1) (DdAll.dp ds _ (by simpa [noDict] using n) h2)
  | .tuple ds, _, n, h => by
    cases h with
    | tup h1 h2 => exact .tup (SqT.of h1) (DdAll.dp ds _ (by simpa [noDict] using n) h2)
  | .dict ds, _, n, h => by simp [noDict] at n
theorem DdAll.dp {K : PySem.W.Frag} : ∀ (ds : List PyData) (vs : List V), noDictAll ds = true → DdAll H vs ds → DpAll K H vs ds
  | [], _, _, h => by cases h; exact .nil
  | d :: ds, _, n, h => by
    cases h with
    | cons h1 h2 =>
      have n' : noDict d = true ∧ noDictAll ds = true := by simpa [noDictAll] using n
      exact .cons (Dd.dp d _ n'.1 h1) (DdAll.dp ds _ n'.2 h2)
end
end

/-! ### slots -/
/-- what a slot holds: data; a list of one's own (that may change); a dict of one's own; the pile (three ints, that change) -/
inductive Sl where
  | dat (d : PyData)
  | own (p : Addr) (ds : List PyData)
  | odc (p : Addr) (ds : List (PyData × PyData))
  | pile (p : Addr)
  | script (p : Addr) (ns : List Int)
abbrev En := List (Option Sl)
def PileAt (H : Hp) (p : Addr) : Prop := ∃ a b c : Int, H p = some (.lst [.int a, .int b, .int c])
/-- where a def was entered: what was known then, what was frozen of it, which objects it may change -/
structure Bs where
  H : Hp
  G : Hp
  mu : Addr → Prop
def SlOk (K : PySem.W.Frag) (G H : Hp) : V → Sl → Prop
  | v, .dat d => Dd G v d
  | v, .own p ds => v = .ref p ∧ G p = none ∧ ∃ xs, H p = some (.lst xs) ∧ DdAll G xs ds
  | v, .odc p ds => v = .ref p ∧ G p = none ∧ ∃ xs, H p = some (.dK xs) ∧ DdKv G xs ds
  | v, .pile p => v = .ref p ∧ G p = none ∧ PileAt H p
  | v, .script p ns => v = .ref p ∧ SqL K G p (ns.map V.int)
def Sl.ad : Sl → Option Addr
  | .dat _ => none
  | .own p _ => some p
  | .odc p _ => some p
  | .pile p => some p
  | .script _ _ => none
/-- a thing that this call made and may yet change -/
def Sl.fz : Sl → Bool
  | .own _ _ => true
  | .odc _ _ => true
  | _ => false
structure EnvOk (K : PySem.W.Frag) (B : Bs) (G H : Hp) (σ : L2.St) (env : En) : Prop where
  exH : Ex G H
  exG : Ex B.G G
  keep : ∀ (q : Addr) (o : HO), B.H q = some o → ¬ B.mu q → H q = some o
  nog : ∀ (q : Addr) (o : HO), B.H q = some o → B.G q = none → G q = none
  there : ∀ (q : Addr) (o : HO), B.H q = some o → ∃ u, H q = some u
  mus : ∀ q : Addr, B.mu q → ∃ o, B.H q = some o
  len : σ.length = env.length
  sl : ∀ (i : Nat) (s : Sl), env[i]? = some (some s) → ∃ v, σ[i]? = some (some v) ∧ SlOk K G H v s
  mine : ∀ (i : Nat) (s : Sl) (p : Addr), env[i]? = some (some s) → s.ad = some p → B.H p = none ∨ (B.mu p ∧ s.fz = false)
  inj : ∀ (i j : Nat) (s t : Sl) (p : Addr), env[i]? = some (some s) → env[j]? = some (some t) → s.ad = some p → t.ad = some p → i = j
/-- the state goes on: frozen things stay, changing ones are told by the environments -/
theorem SqL.ex {K : PySem.W.Frag} {H H' : Hp} {a : Addr} {xs : List V} (h : SqL K H a xs) (e : Ex H H') : SqL K H' a xs := by
  rcases h with (h | ⟨o, h⟩) | h
  · exact .inl (.inl (e _ _ h))
  · exact .inl (.inr ⟨o, e _ _ h⟩)
  · exact .inr h
theorem SlOk.ex {K : PySem.W.Frag} {G H G' H' : Hp} {v : V} {s : Sl} (h : SlOk K G H v s) (e : Ex G G') (n : ∀ p, s.ad = some p → G' p = none) (k : ∀ p o, s.ad = some p → H p = some o → H' p = some o) : SlOk K G' H' v s := by
  cases s with
  | dat d => exact Dd.ex h e
  | own p ds => obtain ⟨h1, h2, xs, h3, h4⟩ := h; exact ⟨h1, n p rfl, xs, k p _ rfl h3, h4.ex e⟩
  | odc p ds => obtain ⟨h1, h2, xs, h3, h4⟩ := h; exact ⟨h1, n p rfl, xs, k p _ rfl h3, h4.ex e⟩
  | pile p => obtain ⟨h1, h2, a, b, c, h3⟩ := h; exact ⟨h1, n p rfl, a, b, c, k p _ rfl h3⟩
  | script p ns => obtain ⟨h1, h2⟩ := h; exact ⟨h1, SqL.ex h2 e⟩
theorem SlOk.has {K : PySem.W.Frag} {G H : Hp} {v : V} {s : Sl} {p : Addr} (h : SlOk K G H v s) (e : s.ad = some p) : v = .ref p ∧ G p = none ∧ ∃ o, H p = some o := by
  cases s with
  | dat d => cases e
  | own q ds => cases e; obtain ⟨h1, h2, xs, h3, h4⟩ := h; exact ⟨h1, h2, _, h3⟩
  | odc q ds => cases e; obtain ⟨h1, h2, xs, h3, h4⟩ := h; exact ⟨h1, h2, _, h3⟩
  | pile q => cases e; obtain ⟨h1, h2, a, b, c, h3⟩ := h; exact ⟨h1, h2, _, h3⟩
  | script q ns => cases e
/-- a new object, frozen at once -/
theorem EnvOk.new {K : PySem.W.Frag} {B : Bs} {G H : Hp} {σ : L2.St} {env : En} (h : EnvOk K B G H σ env) {p : Addr} {o : HO} (n : H p = none) : EnvOk K B (upd G p o) (upd H p o) σ env := by
  have nG : G p = none := h.exH.fresh n
  refine ⟨fun a u e => ?_, h.exG.trans (Ex.new nG), fun q u hq hm => ?_, fun q u hq hg => ?_, fun q u hq => ?_, h.mus, h.len, fun i s e => ?_, h.mine, h.inj⟩
  · by_cases z : a = p
    · subst z; rw [upd_same] at e ⊢; exact e
    · rw [upd_ne z] at e ⊢; exact h.exH a u e
  · have := h.keep q u hq hm
    rw [upd_ne (ne_of_none this n)]; exact this
  · obtain ⟨u', hu⟩ := h.there q u hq
    rw [upd_ne (ne_of_none hu n)]; exact h.nog q u hq hg
  · obtain ⟨u', hu⟩ := h.there q u hq
    exact ⟨u', by rw [upd_ne (ne_of_none hu n)]; exact hu⟩
  · obtain ⟨v, h1, h2⟩ := h.sl i s e
    refine ⟨v, h1, h2.ex (Ex.new nG) (fun q hq => ?_) (fun q u hq hu => ?_)⟩
    · obtain ⟨_, g, o', ho⟩ := h2.has hq
      rw [upd_ne (ne_of_none ho n)]; exact g
    · rw [upd_ne (ne_of_none hu n)]; exact hu
/-- a slot gets data (or is emptied) -/
theorem EnvOk.setD {K : PySem.W.Frag} {B : Bs} {G H : Hp} {σ : L2.St} {env : En} (h : EnvOk K B G H σ env) {i : Nat} {v : V} {d : PyData} (hd : Dd G v d) : EnvOk K B G H (σ.set i (some v)) (env.set i (some (.dat d))) := by
  refine ⟨h.exH, h.exG, h.keep, h.nog, h.there, h.mus, by simp [h.len], fun j s e => ?_, fun j s p e ea => ?_, fun j k s t p e1 e2 a1 a2 => ?_⟩
  · by_cases z : i = j
    · subst z
      have hl : i < env.length := by
        by_cases q : i < env.length
        · exact q
        · rw [List.set_eq_of_length_le (by omega)] at e
          rw [List.getElem?_eq_none (by omega)] at e; cases e
      rw [List.getElem?_set_self hl] at e
      cases e
      exact ⟨v, by rw [List.getElem?_set_self (by rw [h.len]; exact hl)], hd⟩
    · rw [List.getElem?_set_ne z] at e
      obtain ⟨u, h1, h2⟩ := h.sl j s e
      exact ⟨u, by rw [List.getElem?_set_ne z]; exact h1, h2⟩
  · by_cases z : i = j
    · subst z
      by_cases q : i < env.length
      · rw [List.getElem?_set_self q] at e; cases e; cases ea
      · rw [List.set_eq_of_length_le (by omega)] at e; exact h.mine _ _ _ e ea
    · rw [List.getElem?_set_ne z] at e; exact h.mine _ _ _ e ea
  · have g : ∀ {j : Nat} {s : Sl}, (env.set i (some (.dat d)))[j]? = some (some s) → s.ad = some p → env[j]? = some (some s) := fun {j s} e a => by
      by_cases z : i = j
      · subst z
        by_cases q : i < env.length
        · rw [List.getElem?_set_self q] at e; cases e; cases a
        · rw [List.set_eq_of_length_le (by omega)] at e; exact e
      · rw [List.getElem?_set_ne z] at e; exact e
    exact h.inj _ _ _ _ _ (g e1 a1) (g e2 a2) a1 a2
/-- a slot gets a thing of one's own that is new to all -/
theorem EnvOk.setO {K : PySem.W.Frag} {B : Bs} {G H : Hp} {σ : L2.St} {env : En} (h : EnvOk K B G H σ env) {i : Nat} {p : Addr} {s : Sl} (hs : SlOk K G H (.ref p) s) (ha : s.ad = some p) (hB : B.H p = none)
    (hn : ∀ (j : Nat) (t : Sl), env[j]? = some (some t) → t.ad ≠ some p) : EnvOk K B G H (σ.set i (some (.ref p))) (env.set i (some s)) := by
  have g : ∀ {j : Nat} {t : Sl}, (env.set i (some s))[j]? = some (some t) → (i = j ∧ t = s) ∨ (i ≠ j ∧ env[j]? = some (some t)) := fun {j t} e => by
    by_cases z : i = j
    · subst z
      by_cases q : i < env.length
      · rw [List.getElem?_set_self q] at e; cases e; exact .inl ⟨rfl, rfl⟩
      · rw [List.set_eq_of_length_le (by omega)] at e
        rw [List.getElem?_eq_none (by omega)] at e; cases e
    · rw [List.getElem?_set_ne z] at e; exact .inr ⟨z, e⟩
  refine ⟨h.exH, h.exG, h.keep, h.nog, h.there, h.mus, by simp [h.len], fun j t e => ?_, fun j t q e ea => ?_, fun j k t u q e1 e2 a1 a2 => ?_⟩
  · rcases g e with ⟨rfl, rfl⟩ | ⟨z, e'⟩
    · refine ⟨.ref p, ?_, hs⟩
      have hl : i < env.length := by
        by_cases q : i < env.length
        · exact q
        · rw [List.set_eq_of_length_le (by omega)] at e
          rw [List.getElem?_eq_none (by omega)] at e; cases e
      rw [List.getElem?_set_self (by rw [h.len]; exact hl)]
    · obtain ⟨u, h1, h2⟩ := h.sl j t e'
      exact ⟨u, by rw [List.getElem?_set_ne z]; exact h1, h2⟩
  · rcases g e with ⟨rfl, rfl⟩ | ⟨z, e'⟩
    · rw [ha] at ea; cases ea; exact .inl hB
    · exact h.mine _ _ _ e' ea
  · rcases g e1 with ⟨z1, rfl⟩ | ⟨z1, e1'⟩ <;> rcases g e2 with ⟨z2, rfl⟩ | ⟨z2, e2'⟩
    · rw [← z1, ← z2]
    · rw [ha] at a1; cases a1; exact absurd a2 (hn _ _ e2')
    · rw [ha] at a2; cases a2; exact absurd a1 (hn _ _ e1')
    · exact h.inj _ _ _ _ _ e1' e2' a1 a2
/-- a slot is emptied -/
theorem EnvOk.setN {K : PySem.W.Frag} {B : Bs} {G H : Hp} {σ : L2.St} {env : En} (h : EnvOk K B G H σ env) (i : Nat) : EnvOk K B G H (σ.set i none) (env.set i none) := by
  have g : ∀ {j : Nat} {t : Sl}, (env.set i none)[j]? = some (some t) → i ≠ j ∧ env[j]? = some (some t) := fun {j t} e => by
    by_cases z : i = j
    · subst z
      by_cases q : i < env.length
      · rw [List.getElem?_set_self q] at e; cases e
      · rw [List.set_eq_of_length_le (by omega)] at e
        rw [List.getElem?_eq_none (by omega)] at e; cases e
    · rw [List.getElem?_set_ne z] at e; exact ⟨z, e⟩
  refine ⟨h.exH, h.exG, h.keep, h.nog, h.there, h.mus, by simp [h.len], fun j t e => ?_, fun j t q e ea => h.mine _ _ _ (g e).2 ea, fun j k t u q e1 e2 a1 a2 => h.inj _ _ _ _ _ (g e1).2 (g e2).2 a1 a2⟩
  obtain ⟨z, e'⟩ := g e
  obtain ⟨u, h1, h2⟩ := h.sl j t e'
  exact ⟨u, by rw [List.getElem?_set_ne z]; exact h1, h2⟩
/-- a changing thing in slot i changes -/
theorem EnvOk.put {K : PySem.W.Frag} {B : Bs} {G H : Hp} {σ : L2.St} {env : En} (h : EnvOk K B G H σ env) {i : Nat} {p : Addr} {s s' : Sl} {o : HO} (hi : env[i]? = some (some s)) (ha : s.ad = some p) (ha' : s'.ad = some p) (hz : s'.fz = s.fz)
    (hs : SlOk K G (upd H p o) (.ref p) s') : EnvOk K B G (upd H p o) σ (env.set i (some s')) := by
  have hl : i < env.length := by
    by_cases q : i < env.length
    · exact q
    · rw [List.getElem?_eq_none (by omega)] at hi; cases hi
  obtain ⟨v0, hv0, hso⟩ := h.sl i s hi
  obtain ⟨rfl, gp, o0, ho0⟩ := hso.has ha
  have g : ∀ {j : Nat} {t : Sl}, (env.set i (some s'))[j]? = some (some t) → (i = j ∧ t = s') ∨ (i ≠ j ∧ env[j]? = some (some t)) := fun {j t} e => by
    by_cases z : i = j
    · subst z; rw [List.getElem?_set_self hl] at e; cases e; exact .inl ⟨rfl, rfl⟩
    · rw [List.getElem?_set_ne z] at e; exact .inr ⟨z, e⟩
  refine ⟨fun a u e => ?_, h.exG, fun q u hq hm => ?_, h.nog, fun q u hq => ?_, h.mus, by simp [h.len], fun j t e => ?_, fun j t q e ea => ?_, fun j k t u q e1 e2 a1 a2 => ?_⟩
  · rw [upd_ne (fun z => by rw [z, gp] at e; cases e)]; exact h.exH a u e
  · have z : q ≠ p := fun z => by
      subst z
      rcases h.mine i s q hi ha with m | m
      · rw [m] at hq; cases hq
      · exact hm m.1
    rw [upd_ne z]; exact h.keep q u hq hm
  · by_cases z : q = p
    · subst z; exact ⟨o, upd_same⟩
    · rw [upd_ne z]; exact h.there q u hq
  · rcases g e with ⟨rfl, rfl⟩ | ⟨z, e'⟩
    · exact ⟨.ref p, hv0, hs⟩
    · obtain ⟨u, h1, h2⟩ := h.sl j t e'
      refine ⟨u, h1, h2.ex (Ex.refl G) (fun q hq => (h2.has hq).2.1) (fun q w hq hw => ?_)⟩
      have nq : q ≠ p := fun z2 => by subst z2; exact z (h.inj _ _ _ _ _ hi e' ha hq)
      rw [upd_ne nq]; exact hw
  · rcases g e with ⟨rfl, rfl⟩ | ⟨z, e'⟩
    · rw [ha'] at ea; cases ea; rw [hz]; exact h.mine i s p hi ha
    · exact h.mine _ _ _ e' ea
  · rcases g e1 with ⟨z1, rfl⟩ | ⟨z1, e1'⟩ <;> rcases g e2 with ⟨z2, rfl⟩ | ⟨z2, e2'⟩
    · rw [← z1, ← z2]
    · rw [ha'] at a1; cases a1; exact h.inj _ _ _ _ _ (z1 ▸ hi) e2' ha a2
    · rw [ha'] at a2; cases a2; exact h.inj _ _ _ _ _ e1' (z2 ▸ hi) a1 ha
    · exact h.inj _ _ _ _ _ e1' e2' a1 a2
/-- a slot is no longer told of -/
theorem EnvOk.forget {K : PySem.W.Frag} {B : Bs} {G H : Hp} {σ : L2.St} {env : En} (h : EnvOk K B G H σ env) (i : Nat) : EnvOk K B G H σ (env.set i none) := by
  have g : ∀ {j : Nat} {t : Sl}, (env.set i none)[j]? = some (some t) → env[j]? = some (some t) := fun {j t} e => by
    by_cases z : i = j
    · subst z
      by_cases q : i < env.length
      · rw [List.getElem?_set_self q] at e; cases e
      · rw [List.set_eq_of_length_le (by omega)] at e; exact e
    · rw [List.getElem?_set_ne z] at e; exact e
  exact ⟨h.exH, h.exG, h.keep, h.nog, h.there, h.mus, by simp [h.len], fun j t e => h.sl j t (g e), fun j t q e ea => h.mine _ _ _ (g e) ea, fun j k t u q e1 e2 a1 a2 => h.inj _ _ _ _ _ (g e1) (g e2) a1 a2⟩
theorem set_same {α : Type} {l : List α} {i : Nat} {v : α} (h : l[i]? = some v) : l.set i v = l := by
  apply List.ext_getElem?
  intro j
  by_cases z : i = j
  · subst z
    rw [List.getElem?_set_self (List.getElem?_eq_some_iff.mp h).1, h]
  · rw [List.getElem?_set_ne z]
/-- a slot holds data, so it is told -/
theorem EnvOk.tell {K : PySem.W.Frag} {B : Bs} {G H : Hp} {σ : L2.St} {env : En} (h : EnvOk K B G H σ env) {i : Nat} {v : V} {d : PyData} (hv : σ[i]? = some (some v)) (hd : Dd G v d) : EnvOk K B G H σ (env.set i (some (.dat d))) := by
  have := h.setD (i := i) hd
  rw [set_same hv] at this
  exact this
end FD

set_option Elab.async false
set_option linter.all false
set_option maxRecDepth 100000
set_option maxHeartbeats 2000000
namespace FD
open PySem PySem.Spec PyProof.Rows L2

/-! ### what comes of an expression, a test, arguments, a part, a thing to walk, a statement -/
section
variable (K : PySem.W.Frag)
def EvE (te : TE) (env : En) (P : En → PyData → Prop) : Prop :=
  ∀ (B : Bs) (σ : L2.St) (G H : Hp) (Q : VK), EnvOk K B G H σ env →
    (∀ v G' H' env' d, P env' d → Ex G G' → EnvOk K B G' H' σ env' → Dd G' v d → Q v H') → te σ H Q
def EvB (tt : TT) (env : En) (P : En → Bool → Prop) : Prop :=
  ∀ (B : Bs) (σ : L2.St) (G H : Hp) (Q : Bool → Hp → Prop), EnvOk K B G H σ env →
    (∀ b G' H' env', P env' b → Ex G G' → EnvOk K B G' H' σ env' → Q b H') → tt σ H Q
def EvAs (ta : TA) (env : En) (P : En → List PyData → Prop) : Prop :=
  ∀ (B : Bs) (σ : L2.St) (G H : Hp) (Q : List V → Hp → Prop), EnvOk K B G H σ env →
    (∀ vs G' H' env' ds, P env' ds → Ex G G' → EnvOk K B G' H' σ env' → DdAll G' vs ds → Q vs H') → ta σ H Q
def EvO (to : TO) (env : En) (P : En → Option Int → Prop) : Prop :=
  ∀ (B : Bs) (σ : L2.St) (G H : Hp) (Q : Option Int → Hp → Prop), EnvOk K B G H σ env →
    (∀ o G' H' env', P env' o → Ex G G' → EnvOk K B G' H' σ env' → Q o H') → to σ H Q
/-- the iterator walks these data -/
def JOk (J : It) (G : Hp) (xs : List PyData) : Prop := ∀ G1 H1, Ex G G1 → Ex G1 H1 →
  (∀ (i : Nat) d, xs[i]? = some d → J.go i H1 ∧ ∀ x H2, J.yld i H1 x H2 → H2 = H1 ∧ Dd G1 x d) ∧ J.stop xs.length H1
def EvI (wi : TI) (env : En) (P : En → List PyData → Prop) : Prop :=
  ∀ (B : Bs) (σ : L2.St) (G H : Hp) (R : It → Hp → Prop), EnvOk K B G H σ env →
    (∀ J G' H' env' xs, P env' xs → Ex G G' → EnvOk K B G' H' σ env' → JOk J G' xs → R J H') → wi σ H R
structure Outs where
  nx : En → Prop
  rt : En → PyData → Prop := fun _ _ => False
  bk : En → Prop := fun _ => False
  ct : En → Prop := fun _ => False
  rn : En → Prop := fun _ => False
def EvS (t : TS) (env : En) (O : Outs) : Prop :=
  ∀ (B : Bs) (σ : L2.St) (G H : Hp) (D : Ends), EnvOk K B G H σ env →
    (∀ σ' G' H' env', O.nx env' → Ex G G' → EnvOk K B G' H' σ' env' → D.nx σ' H') →
    (∀ v G' H' σ' env' d, O.rt env' d → Ex G G' → EnvOk K B G' H' σ' env' → Dd G' v d → D.rt v H') →
    (∀ σ' G' H' env', O.bk env' → Ex G G' → EnvOk K B G' H' σ' env' → D.bk σ' H') →
    (∀ σ' G' H' env', O.ct env' → Ex G G' → EnvOk K B G' H' σ' env' → D.ct σ' H') →
    (∀ p σ' G' H' env', O.rn env' → Ex G G' → EnvOk K B G' H' σ' env' → G' p = none → PileAt H' p → B.H p = none → D.rt (.ref p) H') → t D σ H
/-- a target takes d -/
def EvG (g : TG) (d : PyData) (env : En) (P : En → Prop) : Prop :=
  ∀ (B : Bs) (σ : L2.St) (G H : Hp) (v : V) (Q : L2.St → Hp → Prop), EnvOk K B G H σ env → Dd G v d →
    (∀ σ' env', P env' → EnvOk K B G H σ' env' → Q σ' H) → g v σ H Q
/-- a two-place operation on data -/
def RD (r : R2) (env : En) (d e : PyData) (P : PyData → Prop) : Prop :=
  ∀ (B : Bs) (σ : L2.St) (G H : Hp) (x y : V) (Q : VK), EnvOk K B G H σ env → Dd G x d → Dd G y e →
    (∀ v G' H' f, P f → Ex G G' → EnvOk K B G' H' σ env → Dd G' v f → Q v H') → r x y H Q
/-- a built-in's call on data -/
def RC (r : List V → Hp → VK → Prop) (env : En) (ds : List PyData) (P : PyData → Prop) : Prop :=
  ∀ (B : Bs) (σ : L2.St) (G H : Hp) (xs : List V) (Q : VK), EnvOk K B G H σ env → DdAll G xs ds →
    (∀ v G' H' f, P f → Ex G G' → EnvOk K B G' H' σ env → Dd G' v f → Q v H') → r xs H Q
def RS (r : V → Option Int → Option Int → Hp → VK → Prop) (env : En) (d : PyData) (lo hi : Option Int) (P : PyData → Prop) : Prop :=
  ∀ (B : Bs) (σ : L2.St) (G H : Hp) (x : V) (Q : VK), EnvOk K B G H σ env → Dd G x d →
    (∀ v G' H' f, P f → Ex G G' → EnvOk K B G' H' σ env → Dd G' v f → Q v H') → r x lo hi H Q
end

section
variable {K : PySem.W.Frag} {env : En} {ta tb tc te : TE} {t u : TS} {P : En → PyData → Prop} {O : Outs}

/-! ### expressions -/
theorem EvE.imp {P' : En → PyData → Prop} (h : EvE K te env P) (w : ∀ e d, P e d → P' e d) : EvE K te env P' :=
  fun B σ G H Q I q => h B σ G H Q I fun v G' H' e d p x y z => q v G' H' e d (w _ _ p) x y z
theorem ev_var {i : Nat} {d : PyData} (h : env[i]? = some (some (.dat d))) (p : P env d) : EvE K (tVar i) env P := fun B σ G H Q I q => by
  obtain ⟨v, h1, h2⟩ := I.sl i _ h
  exact ⟨v, h1, q v G H env d p (Ex.refl G) I h2⟩
theorem ev_int {i : Int} (p : P env (.int i)) : EvE K (tC (.int i)) env P := fun B σ G H Q I q => q _ G H env _ p (Ex.refl G) I (.int i)
theorem ev_str {x : Str} (p : P env (.str x)) : EvE K (tC (.str x)) env P := fun B σ G H Q I q => q _ G H env _ p (Ex.refl G) I (.str x)
theorem ev_bl {b : Bool} (p : P env (.bool b)) : EvE K (tC (.bl b)) env P := fun B σ G H Q I q => q _ G H env _ p (Ex.refl G) I (.bl b)
theorem ev_non (p : P env .none) : EvE K (tC .non) env P := fun B σ G H Q I q => q _ G H env _ p (Ex.refl G) I .non
theorem ev_op {r : R2} (h : EvE K ta env fun e1 d1 => EvE K tb e1 fun e2 d2 => RD K r e2 d1 d2 (P e2)) : EvE K (tOp r ta tb) env P := fun B σ G H Q I q =>
  h B σ G H _ I fun x G1 H1 e1 d1 p1 x1 I1 r1 => p1 B σ G1 H1 _ I1 fun y G2 H2 e2 d2 p2 x2 I2 r2 =>
    p2 B σ G2 H2 x y Q I2 (r1.ex x2) r2 fun v G3 H3 f pf x3 I3 r3 => q v G3 H3 e2 f pf ((x1.trans x2).trans x3) I3 r3
theorem ev_and (h : EvE K ta env fun e1 d => ∃ c, d = .bool c ∧ (c = true → EvE K tb e1 P) ∧ (c = false → P e1 (.bool false))) : EvE K (tAndV ta tb) env P := fun B σ G H Q I q =>
  h B σ G H _ I fun x G1 H1 e1 d1 p1 x1 I1 r1 => by
    obtain ⟨c, rfl, ht, hf⟩ := p1
    cases r1
    refine ⟨c, rfl, ?_⟩
    cases c with
    | true => exact iteT (ht rfl B σ G1 H1 Q I1 fun v G2 H2 e2 d2 p2 x2 I2 r2 => q v G2 H2 e2 d2 p2 (x1.trans x2) I2 r2)
    | false => exact iteF (q _ G1 H1 e1 _ (hf rfl) x1 I1 (.bl false))
theorem ev_or (h : EvE K ta env fun e1 d => ∃ c, d = .bool c ∧ (c = false → EvE K tb e1 P) ∧ (c = true → P e1 (.bool true))) : EvE K (tOrV ta tb) env P := fun B σ G H Q I q =>
  h B σ G H _ I fun x G1 H1 e1 d1 p1 x1 I1 r1 => by
    obtain ⟨c, rfl, hf, ht⟩ := p1
    cases r1
    refine ⟨c, rfl, ?_⟩
    cases c with
    | false => exact iteF (hf rfl B σ G1 H1 Q I1 fun v G2 H2 e2 d2 p2 x2 I2 r2 => q v G2 H2 e2 d2 p2 (x1.trans x2) I2 r2)
    | true => exact iteT (q _ G1 H1 e1 _ (ht rfl) x1 I1 (.bl true))
theorem ev_not (h : EvE K ta env fun e1 d => ∃ c, d = .bool c ∧ P e1 (.bool !c)) : EvE K (tNotV ta) env P := fun B σ G H Q I q =>
  h B σ G H _ I fun x G1 H1 e1 d1 p1 x1 I1 r1 => by
    obtain ⟨c, rfl, hc⟩ := p1
    cases r1
    exact ⟨c, rfl, q _ G1 H1 e1 _ hc x1 I1 (.bl _)⟩
theorem ev_test {P : En → Bool → Prop} (h : EvE K te env fun e1 d => ∃ c, d = .bool c ∧ P e1 c) : EvB K (tTest te) env P := fun B σ G H Q I q =>
  h B σ G H _ I fun x G1 H1 e1 d1 p1 x1 I1 r1 => by
    obtain ⟨c, rfl, hc⟩ := p1
    cases r1
    exact ⟨c, rfl, q c G1 H1 e1 hc x1 I1⟩
theorem ev_tB {P : En → Bool → Prop} (h : EvE K te env fun e1 d => ∃ c, d = .bool c ∧ P e1 c) : EvB K (tB te) env P := fun B σ G H Q I q =>
  h B σ G H _ I fun x G1 H1 e1 d1 p1 x1 I1 r1 => by
    obtain ⟨c, rfl, hc⟩ := p1
    cases r1
    exact ⟨c, rfl, q c G1 H1 e1 hc x1 I1⟩
theorem ev_if {tt : TT} (h : EvB K tt env fun e1 c => (c = true → EvE K ta e1 P) ∧ (c = false → EvE K tb e1 P)) : EvE K (tIf tt ta tb) env P := fun B σ G H Q I q =>
  h B σ G H _ I fun c G1 H1 e1 p1 x1 I1 => by
    cases c with
    | true => exact iteT (p1.1 rfl B σ G1 H1 Q I1 fun v G2 H2 e2 d2 p2 x2 I2 r2 => q v G2 H2 e2 d2 p2 (x1.trans x2) I2 r2)
    | false => exact iteF (p1.2 rfl B σ G1 H1 Q I1 fun v G2 H2 e2 d2 p2 x2 I2 r2 => q v G2 H2 e2 d2 p2 (x1.trans x2) I2 r2)
/-! ### arguments, displays -/
theorem ea_nil {P : En → List PyData → Prop} (p : P env []) : EvAs K tNil env P := fun B σ G H Q I q => q _ G H env _ p (Ex.refl G) I .nil
theorem ea_cons {P : En → List PyData → Prop} {tas : TA} (h : EvE K te env fun e1 d => EvAs K tas e1 fun e2 ds => P e2 (d :: ds)) : EvAs K (tCons te tas) env P := fun B σ G H Q I q =>
  h B σ G H _ I fun x G1 H1 e1 d1 p1 x1 I1 r1 => p1 B σ G1 H1 _ I1 fun vs G2 H2 e2 ds p2 x2 I2 r2 => q _ G2 H2 e2 _ p2 (x1.trans x2) I2 (.cons (r1.ex x2) r2)
theorem upd_dat {G : Hp} {p : Addr} {o : HO} : upd G p o p = some o := upd_same
theorem ev_tup {tas : TA} (h : EvAs K tas env fun e1 ds => ds.length ≤ sizeLine ∧ P e1 (.tuple ds)) : EvE K (tTup tas) env P := fun B σ G H Q I q =>
  h B σ G H _ I fun xs G1 H1 e1 ds p1 x1 I1 r1 => ⟨by rw [r1.length]; exact p1.1, fun p np => by
    have n := I1.exH.fresh np
    exact q _ _ _ e1 _ p1.2 (x1.trans (Ex.new n)) (I1.new np) (.tup upd_same (r1.ex (Ex.new n)))⟩
theorem ev_lst {tas : TA} (h : EvAs K tas env fun e1 ds => ds.length ≤ sizeLine ∧ P e1 (.list ds)) : EvE K (tLst tas) env P := fun B σ G H Q I q =>
  h B σ G H _ I fun xs G1 H1 e1 ds p1 x1 I1 r1 => ⟨by rw [r1.length]; exact p1.1, fun p np => by
    have n := I1.exH.fresh np
    exact q _ _ _ e1 _ p1.2 (x1.trans (Ex.new n)) (I1.new np) (.lst upd_same (r1.ex (Ex.new n)))⟩
theorem ev_cb {r : List V → Hp → VK → Prop} {tas : TA} (h : EvAs K tas env fun e1 ds => RC K r e1 ds (P e1)) : EvE K (tCB r tas) env P := fun B σ G H Q I q =>
  h B σ G H _ I fun xs G1 H1 e1 ds p1 x1 I1 r1 => p1 B σ G1 H1 xs Q I1 r1 fun v G2 H2 f pf x2 I2 r2 => q v G2 H2 e1 f pf (x1.trans x2) I2 r2
/-! ### slices -/
theorem eo_none {P : En → Option Int → Prop} (p : P env none) : EvO K tNoPart env P := fun B σ G H Q I q => q none G H env p (Ex.refl G) I
theorem eo_some {P : En → Option Int → Prop} (h : EvE K te env fun e1 d => ∃ i, d = .int i ∧ P e1 (some i)) : EvO K (tPart te) env P := fun B σ G H Q I q =>
  h B σ G H _ I fun x G1 H1 e1 d1 p1 x1 I1 r1 => by
    obtain ⟨i, rfl, hi⟩ := p1
    cases r1
    exact ⟨i, rfl, q _ G1 H1 e1 hi x1 I1⟩
theorem ev_sl {r : V → Option Int → Option Int → Hp → VK → Prop} {tl th : TO} (h : EvE K te env fun e1 d => EvO K tl e1 fun e2 lo => EvO K th e2 fun e3 hi => RS K r e3 d lo hi (P e3)) : EvE K (tSl r te tl th) env P := fun B σ G H Q I q =>
  h B σ G H _ I fun x G1 H1 e1 d1 p1 x1 I1 r1 => p1 B σ G1 H1 _ I1 fun lo G2 H2 e2 p2 x2 I2 => p2 B σ G2 H2 _ I2 fun hi G3 H3 e3 p3 x3 I3 =>
    p3 B σ G3 H3 x Q I3 (r1.ex (x2.trans x3)) fun v G4 H4 f pf x4 I4 r4 => q v G4 H4 e3 f pf (((x1.trans x2).trans x3).trans x4) I4 r4
/-! ### statements -/
theorem es_next (h : O.nx env) : EvS K tNext env O := fun B σ G H D I a b c d f => a σ G H env h (Ex.refl G) I
theorem es_seq (h : EvS K t env { O with nx := fun e1 => EvS K u e1 O }) : EvS K (tSeq t u) env O := fun B σ G H D I a b c d f =>
  h B σ G H { D with nx := u D } I (fun σ1 G1 H1 e1 p1 x1 I1 => p1 B σ1 G1 H1 D I1 (fun σ2 G2 H2 e2 p2 x2 I2 => a σ2 G2 H2 e2 p2 (x1.trans x2) I2) (fun v G2 H2 σ2 e2 d2 p2 x2 I2 r2 => b v G2 H2 σ2 e2 d2 p2 (x1.trans x2) I2 r2)
    (fun σ2 G2 H2 e2 p2 x2 I2 => c σ2 G2 H2 e2 p2 (x1.trans x2) I2) (fun σ2 G2 H2 e2 p2 x2 I2 => d σ2 G2 H2 e2 p2 (x1.trans x2) I2) (fun q σ2 G2 H2 e2 p2 x2 => f q σ2 G2 H2 e2 p2 (x1.trans x2))) b c d f
theorem es_ret (h : EvE K te env O.rt) : EvS K (tRet te) env O := fun B σ G H D I a b c d f => h B σ G H _ I fun v G1 H1 e1 d1 p1 x1 I1 r1 => b v G1 H1 σ e1 d1 p1 x1 I1 r1
theorem es_if {tt : TT} (h : EvB K tt env fun e1 c => (c = true → EvS K t e1 O) ∧ (c = false → EvS K u e1 O)) : EvS K (tIfS tt t u) env O := fun B σ G H D I a b c d f =>
  h B σ G H _ I fun k G1 H1 e1 p1 x1 I1 => by
    have go : ∀ {t : TS}, EvS K t e1 O → t D σ H1 := fun {t} ht => ht B σ G1 H1 D I1 (fun σ2 G2 H2 e2 p2 x2 I2 => a σ2 G2 H2 e2 p2 (x1.trans x2) I2) (fun v G2 H2 σ2 e2 d2 p2 x2 I2 r2 => b v G2 H2 σ2 e2 d2 p2 (x1.trans x2) I2 r2)
      (fun σ2 G2 H2 e2 p2 x2 I2 => c σ2 G2 H2 e2 p2 (x1.trans x2) I2) (fun σ2 G2 H2 e2 p2 x2 I2 => d σ2 G2 H2 e2 p2 (x1.trans x2) I2) (fun q σ2 G2 H2 e2 p2 x2 => f q σ2 G2 H2 e2 p2 (x1.trans x2))
    cases k with
    | true => exact iteT (go (p1.1 rfl))
    | false => exact iteF (go (p1.2 rfl))
theorem eg_name {i : Nat} {d : PyData} {P : En → Prop} (h : P (env.set i (some (.dat d)))) : EvG K (gName i) d env P := fun B σ G H v Q I r q => q _ _ h (I.setD r)
theorem es_asg {g : TG} (h : EvE K te env fun e1 d => EvG K g d e1 O.nx) : EvS K (tAsg te g) env O := fun B σ G H D I a b c d f =>
  h B σ G H _ I fun v G1 H1 e1 d1 p1 x1 I1 r1 => p1 B σ G1 H1 v D.nx I1 r1 fun σ2 e2 p2 I2 => a σ2 G1 H1 e2 p2 x1 I2
theorem es_drop (h : EvE K te env fun e1 _ => O.nx e1) : EvS K (tDrop te) env O := fun B σ G H D I a b c d f =>
  h B σ G H _ I fun v G1 H1 e1 d1 p1 x1 I1 r1 => a σ G1 H1 e1 p1 x1 I1
def GsOk (K : PySem.W.Frag) (u : TGs) (ds : List PyData) (env : En) (P : En → Prop) : Prop :=
  ∀ (B : Bs) (σ : L2.St) (G H : Hp) (vs : List V) (Q : L2.St → Hp → Prop), EnvOk K B G H σ env → DdAll G vs ds → (∀ σ' env', P env' → EnvOk K B G H σ' env' → Q σ' H) → u vs σ H Q
theorem egs_nil {P : En → Prop} (h : P env) : GsOk K gNil [] env P := fun B σ G H vs Q I r q => by
  cases r
  exact ⟨rfl, q σ env h I⟩
theorem egs_cons {g : TG} {us : TGs} {d : PyData} {ds : List PyData} {P : En → Prop} (h : EvG K g d env fun e1 => GsOk K us ds e1 P) : GsOk K (gCons g us) (d :: ds) env P := fun B σ G H vs Q I r q => by
  cases r with
  | cons r1 r2 => exact ⟨_, _, rfl, h B σ G H _ _ I r1 fun σ1 e1 p1 I1 => p1 B σ1 G H _ Q I1 r2 q⟩
theorem eg_tup {n : Nat} {us : TGs} {ds : List PyData} {P : En → Prop} (hl : ds.length = n) (h : GsOk K us ds env P) : EvG K (gTup K n us) (.tuple ds) env P := fun B σ G H v Q I r q => by
  cases r with
  | tup h1 h2 => exact ⟨_, _, rfl, SqT.of (I.exH _ _ h1), by rw [h2.length]; exact hl, h B σ G H _ Q I h2 q⟩
theorem EvS.imp {O' : Outs} (h : EvS K t env O) (a : ∀ e, O.nx e → O'.nx e) (b : ∀ e d, O.rt e d → O'.rt e d) (c : ∀ e, O.bk e → O'.bk e) (f : ∀ e, O.ct e → O'.ct e) (g : ∀ e, O.rn e → O'.rn e) : EvS K t env O' := fun B σ G H D I a' b' c' d' f' =>
  h B σ G H D I (fun σ1 G1 H1 e1 p => a' σ1 G1 H1 e1 (a _ p)) (fun v G1 H1 σ1 e1 d1 p => b' v G1 H1 σ1 e1 d1 (b _ _ p)) (fun σ1 G1 H1 e1 p => c' σ1 G1 H1 e1 (c _ p)) (fun σ1 G1 H1 e1 p => d' σ1 G1 H1 e1 (f _ p)) (fun q σ1 G1 H1 e1 p => f' q σ1 G1 H1 e1 (g _ p))
/-! ### loops -/
theorem es_for {wi : TI} {g : TG} (h : EvI K wi env fun e1 xs => ∃ W : Nat → En → Prop, W 0 e1 ∧ (∀ (i : Nat) (d : PyData) (e2 : En), xs[i]? = some d → W i e2 →
    EvG K g d e2 fun e3 => EvS K t e3 { nx := W (i + 1), rt := O.rt, bk := O.nx, ct := W (i + 1), rn := O.rn }) ∧ ∀ e2, W xs.length e2 → O.nx e2) : EvS K (tFor wi g t) env O := fun B σ G H D I a b c d f =>
  h B σ G H _ I fun J G1 H1 e1 xs p1 x1 I1 j => by
    obtain ⟨W, w0, ws, wd⟩ := p1
    refine ⟨fun i m σ2 H2 => ∃ G2 e2, m = xs.length - i ∧ i ≤ xs.length ∧ W i e2 ∧ Ex G1 G2 ∧ EnvOk K B G2 H2 σ2 e2, ⟨_, G1, e1, rfl, Nat.zero_le _, w0, Ex.refl _, I1⟩, ?_⟩
    rintro i m σ2 H2 ⟨G2, e2, rfl, hi, w2, x2, I2⟩
    obtain ⟨jg, js⟩ := j G2 H2 x2 I2.exH
    by_cases hlt : i < xs.length
    · obtain ⟨go, yl⟩ := jg i xs[i] (List.getElem?_eq_getElem hlt)
      refine .inr ⟨go, fun σ3 H3 => ∃ G3 e3, W (i + 1) e3 ∧ Ex G1 G3 ∧ EnvOk K B G3 H3 σ3 e3, fun σ3 H3 ⟨G3, e3, w3, x3, I3⟩ => ⟨xs.length - (i + 1), by omega, G3, e3, rfl, hlt, w3, x3, I3⟩, fun x H3 y => ?_⟩
      obtain ⟨e, r⟩ := yl x H3 y
      subst e
      refine ws i _ e2 (List.getElem?_eq_getElem hlt) w2 B σ2 G2 H3 x _ I2 r fun σ3 e3 p3 I3 => ?_
      exact p3 B σ3 G2 H3 _ I3 (fun σ4 G4 H4 e4 p4 x4 I4 => ⟨G4, e4, p4, x2.trans x4, I4⟩) (fun v G4 H4 σ4 e4 d4 p4 x4 I4 r4 => b v G4 H4 σ4 e4 d4 p4 ((x1.trans x2).trans x4) I4 r4)
        (fun σ4 G4 H4 e4 p4 x4 I4 => a σ4 G4 H4 e4 p4 ((x1.trans x2).trans x4) I4) (fun σ4 G4 H4 e4 p4 x4 I4 => ⟨G4, e4, p4, x2.trans x4, I4⟩) (fun q σ4 G4 H4 e4 p4 x4 => f q σ4 G4 H4 e4 p4 ((x1.trans x2).trans x4))
    · have e : i = xs.length := by omega
      subst e
      exact .inl ⟨js, a σ2 G2 H2 e2 (wd e2 w2) (x1.trans x2) I2⟩
theorem sqL_get {K : PySem.W.Frag} {H : Hp} {a : Addr} {xs ys : List V} (h : H a = some (.lst xs)) (h' : SqL K H a ys) (n : K.lookup a = none) : ys = xs := by
  rcases h' with (h' | ⟨o, h'⟩) | ⟨o, its, k, e, _⟩
  · rw [h] at h'; cases h'; rfl
  · rw [h] at h'; cases h'
  · rw [n] at e; cases e
end
end FD

set_option Elab.async false
set_option linter.all false
set_option maxRecDepth 100000
set_option maxHeartbeats 2000000
namespace FD
open PySem PySem.Spec PyProof.Rows L2

section
variable {K : PySem.W.Frag} {env : En} {ta tb tc te : TE} {t u : TS} {P : En → PyData → Prop} {O : Outs}
/-! ### what is walked -/
theorem jok_list {G : Hp} {a : Addr} {xs : List V} {ds : List PyData} (h : G a = some (.lst xs)) (r : DdAll G xs ds) : JOk (Itl K a) G ds := fun G1 H1 x1 x2 => by
  have hq : SqL K H1 a xs := SqL.of (x2 _ _ (x1 _ _ h))
  refine ⟨fun i d e => ?_, xs, hq, by rw [r.length]; exact Nat.le_refl _⟩
  obtain ⟨v, hv, rv⟩ := r.get e
  refine ⟨⟨xs, v, hq, hv⟩, fun y H2 hy => ⟨hy.1, ?_⟩⟩
  have := hy.2 xs hq
  rw [hv] at this
  cases this
  exact rv.ex x1
theorem jok_tup {G : Hp} {a : Addr} {xs : List V} {ds : List PyData} (h : G a = some (.tup xs)) (r : DdAll G xs ds) : JOk (Itt K a) G ds := fun G1 H1 x1 x2 => by
  have hq : SqT K H1 a xs := SqT.of (x2 _ _ (x1 _ _ h))
  refine ⟨fun i d e => ?_, xs, hq, by rw [r.length]; exact Nat.le_refl _⟩
  obtain ⟨v, hv, rv⟩ := r.get e
  refine ⟨⟨xs, v, hq, hv⟩, fun y H2 hy => ⟨hy.1, ?_⟩⟩
  have := hy.2 xs hq
  rw [hv] at this
  cases this
  exact rv.ex x1
theorem ei_list {P : En → List PyData → Prop} (h : EvE K te env fun e1 d => ∃ ds, d = .list ds ∧ P e1 ds) : EvI K (iList K te) env P := fun B σ G H R I q =>
  h B σ G H _ I fun x G1 H1 e1 d1 p1 x1 I1 r1 => by
    obtain ⟨ds, rfl, hp⟩ := p1
    cases r1 with
    | lst h1 h2 => exact ⟨_, rfl, ⟨_, SqL.of (I1.exH _ _ h1)⟩, q _ G1 H1 e1 ds hp x1 I1 (jok_list h1 h2)⟩
theorem ei_tup {P : En → List PyData → Prop} (h : EvE K te env fun e1 d => ∃ ds, d = .tuple ds ∧ P e1 ds) : EvI K (iTup K te) env P := fun B σ G H R I q =>
  h B σ G H _ I fun x G1 H1 e1 d1 p1 x1 I1 r1 => by
    obtain ⟨ds, rfl, hp⟩ := p1
    cases r1 with
    | tup h1 h2 => exact ⟨_, rfl, ⟨_, SqT.of (I1.exH _ _ h1)⟩, q _ G1 H1 e1 ds hp x1 I1 (jok_tup h1 h2)⟩
/-- a text's signs -/
def signs (x : Str) : List PyData := x.cps.toList.map fun c => .str ⟨#[c]⟩
theorem ei_str {P : En → List PyData → Prop} (h : EvE K te env fun e1 d => ∃ x, d = .str x ∧ P e1 (signs x)) : EvI K (iStr te) env P := fun B σ G H R I q =>
  h B σ G H _ I fun y G1 H1 e1 d1 p1 x1 I1 r1 => by
    obtain ⟨x, rfl, hp⟩ := p1
    cases r1
    refine ⟨x, rfl, q _ G1 H1 e1 _ hp x1 I1 fun G2 H2 x2 x3 => ⟨fun i d e => ?_, by show x.cps.size ≤ (signs x).length; simp [signs]⟩⟩
    have hi : i < x.cps.size := by
      have := (List.getElem?_eq_some_iff.mp e).1
      simpa [signs] using this
    refine ⟨hi, fun z H3 hz => ⟨hz.1, ?_⟩⟩
    obtain ⟨c, hc, rfl⟩ := hz.2
    simp only [signs, List.getElem?_map, Array.getElem?_toList, hc, Option.map_some, Option.some.injEq] at e
    subst e
    exact .str _
/-- lo, lo + 1, .. -/
def nums (lo : Int) (n : Nat) : List PyData := (List.range n).map fun i : Nat => .int (lo + (i : Int))
theorem nums_length {lo : Int} {n : Nat} : (nums lo n).length = n := by simp [nums]
theorem nums_get {lo : Int} {n i : Nat} {d : PyData} (h : (nums lo n)[i]? = some d) : i < n ∧ d = .int (lo + (i : Int)) := by
  have hi : i < n := by
    have := (List.getElem?_eq_some_iff.mp h).1
    simpa [nums] using this
  refine ⟨hi, ?_⟩
  simp only [nums, List.getElem?_map, List.getElem?_range hi, Option.map_some, Option.some.injEq] at h
  exact h.symm
theorem jok_range {G : Hp} {lo : Int} {n : Nat} : JOk (Itr lo n) G (nums lo n) := fun G1 H1 x1 x2 => by
  refine ⟨fun i d e => ?_, by show n ≤ _; rw [nums_length]; exact Nat.le_refl _⟩
  obtain ⟨hi, rfl⟩ := nums_get e
  refine ⟨hi, fun y H2 hy => ⟨hy.1, ?_⟩⟩
  rw [hy.2]
  exact .int _
theorem ei_rng1 {P : En → List PyData → Prop} {tas : TA} (h : EvAs K tas env fun e1 ds => ∃ j : Int, ds = [.int j] ∧ (-(2 ^ 62) ≤ j ∧ j < 2 ^ 62) ∧ P e1 (nums 0 j.toNat)) : EvI K (iRng1 tas) env P := fun B σ G H R I q =>
  h B σ G H _ I fun vs G1 H1 e1 ds p1 x1 I1 r1 => by
    obtain ⟨j, rfl, ⟨b1, b2⟩, hp⟩ := p1
    cases r1 with
    | cons r1 r2 =>
      cases r1; cases r2
      exact ⟨j, rfl, b1, b2, q _ G1 H1 e1 _ hp x1 I1 jok_range⟩
theorem ei_rng2 {P : En → List PyData → Prop} {tas : TA} (h : EvAs K tas env fun e1 ds => ∃ i j : Int, ds = [.int i, .int j] ∧ (-(2 ^ 62) ≤ i ∧ i < 2 ^ 62 ∧ -(2 ^ 62) ≤ j ∧ j < 2 ^ 62) ∧ P e1 (nums i (j - i).toNat)) : EvI K (iRng2 tas) env P := fun B σ G H R I q =>
  h B σ G H _ I fun vs G1 H1 e1 ds p1 x1 I1 r1 => by
    obtain ⟨i, j, rfl, b, hp⟩ := p1
    cases r1 with
    | cons r1 r2 =>
      cases r1
      cases r2 with
      | cons r2 r3 =>
        cases r2; cases r3
        exact ⟨i, j, rfl, b, q _ G1 H1 e1 _ hp x1 I1 jok_range⟩
/-! ### a comprehension, its name in slot i -/
/-- an object that is being made, kept as part of what was known at the entry -/
theorem EnvOk.hide {B : Bs} {G H : Hp} {σ : L2.St} {env : En} (h : EnvOk K B G H σ env) {D : Addr} {o : HO} (hD : H D = some o) (gD : G D = none) (nD : ∀ (j : Nat) (s : Sl), env[j]? = some (some s) → s.ad ≠ some D) (mD : ¬ B.mu D) :
    EnvOk K ⟨upd B.H D o, B.G, B.mu⟩ G H σ env := by
  refine ⟨h.exH, h.exG, fun q u hq hm => ?_, fun q u hq hg => ?_, fun q u hq => ?_, fun q hq => ?_, h.len, h.sl, fun i s p e a => ?_, h.inj⟩
  · by_cases z : q = D
    · subst z
      have hq' : (upd B.H q o) q = some u := hq
      rw [upd_same] at hq'; cases hq'; exact hD
    · have hq' : (upd B.H D o) q = some u := hq
      rw [upd_ne z] at hq'; exact h.keep q u hq' hm
  · by_cases z : q = D
    · subst z; exact gD
    · have hq' : (upd B.H D o) q = some u := hq
      rw [upd_ne z] at hq'; exact h.nog q u hq' hg
  · by_cases z : q = D
    · subst z; exact ⟨o, hD⟩
    · have hq' : (upd B.H D o) q = some u := hq
      rw [upd_ne z] at hq'; exact h.there q u hq'
  · obtain ⟨u, hu⟩ := h.mus q hq
    refine ⟨u, ?_⟩
    show (upd B.H D o) q = some u
    rw [upd_ne (fun z : q = D => mD (by rw [← z]; exact hq))]; exact hu
  · rcases h.mine i s p e a with m | m
    · refine .inl ?_
      show (upd B.H D o) p = none
      rw [upd_ne (fun z : p = D => nD i s e (by rw [← z]; exact a))]; exact m
    · exact .inr m
theorem EnvOk.unhide {B : Bs} {G H : Hp} {σ : L2.St} {env : En} {D : Addr} {o : HO} (h : EnvOk K ⟨upd B.H D o, B.G, B.mu⟩ G H σ env) (bD : B.H D = none) (mD : ¬ B.mu D) (gB : B.G D = none) :
    EnvOk K B G H σ env ∧ H D = some o ∧ G D = none ∧ ∀ (j : Nat) (s : Sl), env[j]? = some (some s) → s.ad ≠ some D := by
  have nq : ∀ {q : Addr} {u : HO}, B.H q = some u → q ≠ D := fun hq z => by rw [z, bD] at hq; cases hq
  refine ⟨⟨h.exH, h.exG, fun q u hq hm => h.keep q u (by show (upd B.H D o) q = _; rw [upd_ne (nq hq)]; exact hq) hm, fun q u hq hg => h.nog q u (by show (upd B.H D o) q = _; rw [upd_ne (nq hq)]; exact hq) hg,
    fun q u hq => h.there q u (by show (upd B.H D o) q = _; rw [upd_ne (nq hq)]; exact hq), fun q hq => ?_, h.len, h.sl, fun i s p e a => ?_, h.inj⟩, h.keep D o upd_same mD, h.nog D o upd_same gB, fun j s e a => ?_⟩
  · obtain ⟨u, hu⟩ := h.mus q hq
    have hu' : (upd B.H D o) q = some u := hu
    rw [upd_ne (fun z : q = D => mD (by rw [← z]; exact hq))] at hu'
    exact ⟨u, hu'⟩
  · rcases h.mine i s p e a with m | m
    · have m' : (upd B.H D o) p = none := m
      by_cases z : p = D
      · subst z; exact .inl bD
      · rw [upd_ne z] at m'; exact .inl m'
    · exact .inr m
  · rcases h.mine j s D e a with m | m
    · have m' : (upd B.H D o) D = none := m
      rw [upd_same] at m'; cases m'
    · exact mD m.1


/-- what was being made is done: from now on it stays -/
theorem EnvOk.freeze {B : Bs} {G H : Hp} {σ : L2.St} {env : En} (h : EnvOk K B G H σ env) {D : Addr} {o : HO} (hD : H D = some o) (gD : G D = none) (nD : ∀ (j : Nat) (s : Sl), env[j]? = some (some s) → s.ad ≠ some D) (bD : B.H D = none) :
    EnvOk K B (upd G D o) H σ env := by
  refine ⟨fun a u e => ?_, h.exG.trans (Ex.new gD), h.keep, fun q u hq hg => ?_, h.there, h.mus, h.len, fun j s e => ?_, h.mine, h.inj⟩
  · by_cases z : a = D
    · subst z; rw [upd_same] at e; cases e; exact hD
    · rw [upd_ne z] at e; exact h.exH a u e
  · rw [upd_ne (fun z : q = D => by rw [z, bD] at hq; cases hq)]; exact h.nog q u hq hg
  · obtain ⟨v, h1, h2⟩ := h.sl j s e
    refine ⟨v, h1, h2.ex (Ex.new gD) (fun p hp => ?_) fun p u _ hu => hu⟩
    rw [upd_ne (fun z : p = D => nD j s e (by rw [← z]; exact hp))]
    exact (h2.has hp).2.1
theorem EnvOk.unwipe {B : Bs} {G H : Hp} {σ : L2.St} {env : En} {i : Nat} (h : EnvOk K B G H (σ.set i none) env) : EnvOk K B G H σ (env.set i none) := by
  have I := h.setN i
  refine ⟨h.exH, h.exG, h.keep, h.nog, h.there, h.mus, by have := h.len; simp at this; simp [this], fun j s e => ?_, I.mine, I.inj⟩
  obtain ⟨v, h1, h2⟩ := I.sl j s e
  refine ⟨v, ?_, h2⟩
  by_cases z : i = j
  · subst z
    by_cases q : i < σ.length
    · rw [List.getElem?_set_self (by simpa using q)] at h1; cases h1
    · rw [List.set_eq_of_length_le (by simpa using q), List.set_eq_of_length_le (by omega)] at h1; exact h1
  · rw [List.getElem?_set_ne z, List.getElem?_set_ne z] at h1; exact h1
theorem wipe1 (σ : L2.St) (i : Nat) : wipe σ [i] = σ.set i none := rfl
/-- [e for x in xs if t]: by a word over the turn, the environment and what is made so far -/
theorem ev_lc {wi : TI} {i : Nat} {tt : TT} (h : EvI K wi env fun e1 xs => ∃ W : Nat → En → List PyData → Prop, W 0 (e1.set i none) [] ∧
    (∀ (j : Nat) (d : PyData) (e2 : En) (acc : List PyData), xs[j]? = some d → W j e2 acc → acc.length < sizeLine ∧ EvB K tt (e2.set i (some (.dat d))) fun e3 b =>
      (b = true → EvE K te e3 fun e4 y => W (j + 1) (e4.set i none) (acc ++ [y])) ∧ (b = false → W (j + 1) (e3.set i none) acc)) ∧
    ∀ (e2 : En) (acc : List PyData), W xs.length e2 acc → P (e2.set i none) (.list acc)) : EvE K (tLc wi (gName i) tt te [i]) env P := fun B σ G H Q I q =>
  h B σ G H _ I fun J G1 H1 e1 xs p1 x1 I1 j => by
    obtain ⟨W, w0, ws, wd⟩ := p1
    intro D nD
    have gD : G1 D = none := I1.exH.fresh nD
    have bD : B.H D = none := by
      cases z : B.H D with
      | none => rfl
      | some o => obtain ⟨u, hu⟩ := I1.there D o z; rw [nD] at hu; cases hu
    have mD : ¬ B.mu D := fun m => by obtain ⟨o, ho⟩ := I1.mus D m; rw [bD] at ho; cases ho
    have gB : B.G D = none := I1.exG.fresh gD
    have sD : ∀ (j : Nat) (s : Sl), (e1.set i none)[j]? = some (some s) → s.ad ≠ some D := fun j s e a => by
      obtain ⟨v, _, hs⟩ := (I1.setN i).sl j s e
      obtain ⟨_, _, o, ho⟩ := hs.has a
      rw [nD] at ho; cases ho
    -- the state between two turns
    let St := fun (jn : Nat) (H2 : Hp) => ∃ (G2 : Hp) (e2 : En) (acc : List PyData) (av : List V), jn ≤ xs.length ∧ W jn e2 acc ∧ Ex G1 G2 ∧ DdAll G2 av acc ∧ EnvOk K ⟨upd B.H D (.lst av), B.G, B.mu⟩ G2 H2 (σ.set i none) e2
    have start : St 0 (upd H1 D (.lst [])) := by
      refine ⟨G1, e1.set i none, [], [], Nat.zero_le _, w0, Ex.refl _, .nil, ?_⟩
      have I2 := I1.setN i
      refine EnvOk.hide ?_ upd_same gD sD mD
      exact ⟨I2.exH.trans (Ex.new nD), I2.exG, fun q u hq hm => Ex.new nD _ _ (I2.keep q u hq hm), I2.nog, fun q u hq => by obtain ⟨w, hw⟩ := I2.there q u hq; exact ⟨w, Ex.new nD _ _ hw⟩, I2.mus, I2.len,
        fun k s e => by
          obtain ⟨v, h1, h2⟩ := I2.sl k s e
          exact ⟨v, h1, h2.ex (Ex.refl _) (fun p hp => (h2.has hp).2.1) fun p o hp ho => Ex.new nD _ _ ho⟩, I2.mine, I2.inj⟩
    refine ⟨fun jn m H2 => m = xs.length - jn ∧ St jn H2, ⟨_, rfl, start⟩, ?_⟩
    rintro jn m H2 ⟨rfl, G2, e2, acc, av, hj, w2, x2, ra, I2⟩
    obtain ⟨jg, js⟩ := j G2 H2 x2 I2.exH
    by_cases hlt : jn < xs.length
    · obtain ⟨go, yl⟩ := jg jn xs[jn] (List.getElem?_eq_getElem hlt)
      refine .inr ⟨go, St (jn + 1), fun H3 s3 => ⟨xs.length - (jn + 1), by omega, rfl, s3⟩, fun x H3 y => ?_⟩
      obtain ⟨e, r⟩ := yl x H3 y
      subst e
      obtain ⟨hl, hb⟩ := ws jn _ e2 acc (List.getElem?_eq_getElem hlt) w2
      show wipe ((wipe σ [i]).set i (some x)) [i] = wipe σ [i] ∧ _
      refine ⟨by rw [wipe1, wipe1, List.set_set, List.set_set], ?_⟩
      have I3 : EnvOk K ⟨upd B.H D (.lst av), B.G, B.mu⟩ G2 H3 ((wipe σ [i]).set i (some x)) (e2.set i (some (.dat xs[jn]))) := I2.setD r
      have back : ((wipe σ [i]).set i (some x)).set i none = σ.set i none := by rw [wipe1, List.set_set, List.set_set]
      refine hb _ _ G2 H3 _ I3 fun b G4 H4 e4 p4 x4 I4 => ?_
      cases b with
      | false =>
        refine iteF ⟨G4, e4.set i none, acc, av, hlt, p4.2 rfl, x2.trans x4, ra.ex x4, ?_⟩
        have := I4.setN i
        rw [back] at this
        exact this
      | true =>
        refine iteT (p4.1 rfl _ _ G4 H4 _ I4 fun yv G5 H5 e5 yd p5 x5 I5 r5 => ?_)
        obtain ⟨I6, hD5, gD5, sD5⟩ := I5.unhide bD mD gB
        refine ⟨av, hD5, by rw [ra.length]; exact hl, G5, e5.set i none, acc ++ [yd], av ++ [yv], hlt, p5, (x2.trans x4).trans x5, ((ra.ex x4).ex x5).append (.cons r5 .nil), ?_⟩
        have I7 := I6.setN i
        rw [back] at I7
        have sD7 : ∀ (k : Nat) (s : Sl), (e5.set i none)[k]? = some (some s) → s.ad ≠ some D := fun k s e => by
          by_cases z : i = k
          · subst z
            by_cases q : i < e5.length
            · rw [List.getElem?_set_self q] at e; cases e
            · rw [List.set_eq_of_length_le (by omega)] at e; exact sD5 _ _ e
          · rw [List.getElem?_set_ne z] at e; exact sD5 _ _ e
        refine EnvOk.hide (H := upd H5 D (.lst (av ++ [yv]))) ?_ upd_same gD5 sD7 mD
        have up : ∀ {p : Addr} {o : HO}, p ≠ D → H5 p = some o → (upd H5 D (.lst (av ++ [yv]))) p = some o := fun n e => by rw [upd_ne n]; exact e
        have nq : ∀ {p : Addr} {o : HO}, B.H p = some o → p ≠ D := fun e z => by rw [z, bD] at e; cases e
        exact ⟨fun p o e => up (fun z => by rw [z, gD5] at e; cases e) (I7.exH p o e), I7.exG, fun p o e m => up (nq e) (I7.keep p o e m), I7.nog, fun p o e => by obtain ⟨w, hw⟩ := I7.there p o e; exact ⟨w, up (nq e) hw⟩, I7.mus, I7.len,
          fun k s e => by
            obtain ⟨v, h1, h2⟩ := I7.sl k s e
            exact ⟨v, h1, h2.ex (Ex.refl _) (fun p hp => (h2.has hp).2.1) fun p o hp ho => up (fun z => sD7 k s e (by rw [← z]; exact hp)) ho⟩, I7.mine, I7.inj⟩
    · have e : jn = xs.length := by omega
      subst e
      refine .inl ⟨js, ?_⟩
      obtain ⟨I6, hD5, gD5, sD5⟩ := I2.unhide bD mD gB
      have I7 := I6.unwipe.freeze hD5 gD5 (fun k s e => by
        by_cases z : i = k
        · subst z
          by_cases q : i < e2.length
          · rw [List.getElem?_set_self q] at e; cases e
          · rw [List.set_eq_of_length_le (by omega)] at e; exact sD5 _ _ e
        · rw [List.getElem?_set_ne z] at e; exact sD5 _ _ e) bD
      exact q _ _ H2 _ _ (wd e2 acc w2) ((x1.trans x2).trans (Ex.new gD5)) I7 (.lst upd_same (ra.ex (Ex.new gD5)))
end
end FD

set_option Elab.async false
set_option linter.all false
set_option maxRecDepth 100000
set_option maxHeartbeats 2000000
namespace FD
open PySem PySem.Spec PyProof.Rows L2

/-! ### operators of any data: one reading for each sign -/
def rPlus (K : PySem.W.Frag) : R2 := fun x y H Q => rI0 (fun i j => .int (i + j)) x y H Q ∨ (∃ i j : Str, x = .str i ∧ y = .str j ∧ i.length + j.length ≤ sizeLine ∧ Q (.str (i ++ j)) H) ∨ rCat x y H Q ∨ rCatA K x y H Q
def rTimes (K : PySem.W.Frag) : R2 := fun x y H Q => rI CMul (fun i j => .int (i * j)) x y H Q ∨ rI CMulW (fun i j => .int (i * j)) x y H Q ∨ rRepT K x y H Q ∨ rRep x y H Q
def rIsAny : R2 := fun x y H Q => rIsB x y H Q ∨ (y = .non ∧ Q (.bl (decide (x = .non))) H)
def rIsNotAny : R2 := fun x y H Q => rNotB x y H Q ∨ (y = .non ∧ Q (.bl (!decide (x = .non))) H)
def rOver : R2 := fun x y H Q => rI CDivN (fun i j => .int (i.fdiv j)) x y H Q
def rMod : R2 := fun x y H Q => rI (fun _ j => j ≠ 0) (fun i j => .int (i.fmod j)) x y H Q
def rLe : R2 := fun x y H Q => rI0 (fun i j => .bl (decide (i ≤ j))) x y H Q ∨ ∃ i j : Str, x = .str i ∧ y = .str j ∧ Q (.bl (!decide (j.cps.toList < i.cps.toList))) H
def rSlice (K : PySem.W.Frag) : V → Option Int → Option Int → Hp → VK → Prop := fun x lo hi H Q => rSlL K x lo hi H Q ∨ rSlA K x lo hi H Q ∨ rSlS x lo hi H Q
section
variable {X : Cx}
theorem op_plus : OpR X (binaryOp .Add) (rPlus X.K) := op_add.or (op_add_str.or (op_cat.or op_catA))
theorem op_times : OpR X (binaryOp .Mult) (rTimes X.K) := op_mul.or (op_mulW.or (op_repT.or op_rep))
theorem op_isAny : OpR X (compareOp .Is) rIsAny := op_isBl.or op_isN
theorem op_isNotAny : OpR X (compareOp .IsNot) rIsNotAny := op_notBl.or op_notN
theorem op_leAny : OpR X (compareOp .LtE) rLe := op_le.or op_le_str
theorem sl_any : SlR X (rSlice X.K) := sl_list.or (sl_tupA.or sl_str)
theorem Room.u64 {k : Nat} {A : Around} (r : Room k A) : A.units + 64 < cLine := by have := r.un; omega
theorem Room.u1 {k : Nat} {A : Around} (r : Room k A) : A.units + 1 < cLine := by have := r.un; omega
/-- repr of data -/
def rRepr (K : PySem.W.Frag) : List V → Hp → VK → Prop := fun xs H Q => ∃ x, xs = [x] ∧
  ((x = .non ∧ Q (.str "None") H) ∨ (∃ i, x = .int i ∧ i.natAbs.log2 < 1920 ∧ Q (.str (toString i)) H) ∨
    ∃ (a : Addr) (d : PyData), x = .ref a ∧ Dp K H (.ref a) d ∧ d.showable = true ∧ d.hasDict = false ∧ d.depth ≤ 60 ∧ d.shown.length ≤ sizeLine ∧ Q (.str d.shown) H)
theorem call_repr {k : Nat} (hr : Room k X.A) (hg : X.A.guards = some []) : CallR X (.builtin "repr") (rRepr X.K) := by
  intro pins s σ H xs us Q I r h
  obtain ⟨x, rfl, h⟩ := h
  obtain ⟨u, rfl, rx⟩ := vals1 r
  rcases h with ⟨rfl, q⟩ | ⟨i, rfl, hz, q⟩ | ⟨a, d, rfl, hd, sh, nd, dp, sz, q⟩
  · cases rx
    exact PySem.P.repr_of_none ⟨.str _, H, I.tok _, ⟨_, rfl⟩, q⟩
  · obtain ⟨t, rfl⟩ := rx
    exact PySem.P.repr_of_int hz ⟨.str _, H, I.tok _, ⟨_, rfl⟩, q⟩
  · obtain ⟨as, rd⟩ := Dp.reads I d (.ref a) u hd rx
    cases rx
    refine repr_of_reads' rd sh (PyData.noDict_hsm nd) hg (by have := Room.u64 hr; omega) (fun _ _ e => e) (fun h' v tk hk => ?_) sz
    exact ⟨.str _, H, I.kept (t' := tk) hk, ⟨_, rfl⟩, q⟩
end

section
variable {K : PySem.W.Frag} {env : En} {P : PyData → Prop}
/-! ### what they do on data -/
theorem rd_keep {r : R2} {d e f : PyData} (p : P f) (h : ∀ (G H : Hp) (x y : V) (Q : VK), Ex G H → Dd G x d → Dd G y e → (∀ v, Dd G v f → Q v H) → r x y H Q) : RD K r env d e P :=
  fun B σ G H x y Q I rx ry q => h G H x y Q I.exH rx ry fun v rv => q v G H f p (Ex.refl G) I rv
theorem rd_int {g : Int → Int → Int} {i j : Int} (p : P (.int (g i j))) : RD K (rI0 fun i j => .int (g i j)) env (.int i) (.int j) P := rd_keep p fun G H x y Q _ rx ry q => by
  cases rx; cases ry; exact ⟨i, j, rfl, rfl, q _ (.int _)⟩
theorem rd_cmp {g : Int → Int → Bool} {i j : Int} (p : P (.bool (g i j))) : RD K (rI0 fun i j => .bl (g i j)) env (.int i) (.int j) P := rd_keep p fun G H x y Q _ rx ry q => by
  cases rx; cases ry; exact ⟨i, j, rfl, rfl, q _ (.bl _)⟩
theorem rd_intC {C : Int → Int → Prop} {g : Int → Int → Int} {i j : Int} (hc : C i j) (p : P (.int (g i j))) : RD K (rI C fun i j => .int (g i j)) env (.int i) (.int j) P := rd_keep p fun G H x y Q _ rx ry q => by
  cases rx; cases ry; exact ⟨i, j, rfl, rfl, hc, q _ (.int _)⟩
theorem rd_plusI {i j : Int} (p : P (.int (i + j))) : RD K (rPlus K) env (.int i) (.int j) P := fun B σ G H x y Q I rx ry q => .inl (rd_int p B σ G H x y Q I rx ry q)
theorem rd_plusS {i j : Str} (hl : i.length + j.length ≤ sizeLine) (p : P (.str (i ++ j))) : RD K (rPlus K) env (.str i) (.str j) P := fun B σ G H x y Q I rx ry q => by
  cases rx; cases ry; exact .inr (.inl ⟨i, j, rfl, rfl, hl, q _ G H _ p (Ex.refl G) I (.str _)⟩)
theorem rd_plusL {xs ys : List PyData} (hl : xs.length + ys.length ≤ sizeLine) (p : P (.list (xs ++ ys))) : RD K (rPlus K) env (.list xs) (.list ys) P := fun B σ G H x y Q I rx ry q => by
  cases rx with
  | lst h1 r1 =>
    cases ry with
    | lst h2 r2 =>
      refine .inr (.inr (.inl ⟨_, _, _, _, rfl, rfl, I.exH _ _ h1, I.exH _ _ h2, by rw [r1.length, r2.length]; exact hl, fun p' np => ?_⟩))
      have n := I.exH.fresh np
      exact q _ _ _ _ p (Ex.new n) (I.new np) (.lst upd_same ((r1.append r2).ex (Ex.new n)))
theorem rd_plusT {xs ys : List PyData} (hl : xs.length + ys.length ≤ sizeLine) (p : P (.tuple (xs ++ ys))) : RD K (rPlus K) env (.tuple xs) (.tuple ys) P := fun B σ G H x y Q I rx ry q => by
  cases rx with
  | tup h1 r1 =>
    cases ry with
    | tup h2 r2 =>
      refine .inr (.inr (.inr ⟨_, _, _, _, rfl, rfl, SqT.of (I.exH _ _ h1), SqT.of (I.exH _ _ h2), by rw [r1.length, r2.length]; exact hl, fun e => ?_, fun _ e => ?_, fun _ _ p' np => ?_⟩))
      · subst e
        cases r1
        exact q _ G H _ p (Ex.refl G) I (.tup h2 r2)
      · subst e
        cases r2
        rw [List.append_nil] at p
        exact q _ G H _ p (Ex.refl G) I (.tup h1 r1)
      · have n := I.exH.fresh np
        exact q _ _ _ _ p (Ex.new n) (I.new np) (.tup upd_same ((r1.append r2).ex (Ex.new n)))
theorem rd_timesI {i j : Int} (hc : CMul i j) (p : P (.int (i * j))) : RD K (rTimes K) env (.int i) (.int j) P := fun B σ G H x y Q I rx ry q => .inl (rd_intC (C := CMul) (g := fun i j => i * j) hc p B σ G H x y Q I rx ry q)
theorem rd_timesW {i j : Int} (hc : CMulW i j) (p : P (.int (i * j))) : RD K (rTimes K) env (.int i) (.int j) P := fun B σ G H x y Q I rx ry q => .inr (.inl (rd_intC (C := CMulW) (g := fun i j => i * j) hc p B σ G H x y Q I rx ry q))
theorem rd_timesT {xs : List PyData} {k : Int} (hx : xs ≠ []) (h2 : 2 ≤ k) (hk : k ≤ 1000) (hl : xs.length ≤ 1000) (p : P (.tuple (List.replicate k.toNat xs).flatten)) : RD K (rTimes K) env (.tuple xs) (.int k) P := fun B σ G H x y Q I rx ry q => by
  cases rx with
  | tup h1 r1 =>
    cases ry
    refine .inr (.inr (.inl ⟨_, k, _, rfl, rfl, SqT.of (I.exH _ _ h1), fun e => ?_, h2, hk, by rw [r1.length]; exact hl, fun p' np => ?_⟩))
    · subst e; cases r1; exact hx rfl
    · have n := I.exH.fresh np
      exact q _ _ _ _ p (Ex.new n) (I.new np) (.tup upd_same ((r1.rep _).ex (Ex.new n)))
theorem rd_modI {i j : Int} (hc : j ≠ 0) (p : P (.int (i.fmod j))) : RD K rMod env (.int i) (.int j) P := rd_intC (C := fun _ j => j ≠ 0) (g := fun i j => i.fmod j) hc p
theorem rd_overI {i j : Int} (hc : CDivN i j) (p : P (.int (i.fdiv j))) : RD K rOver env (.int i) (.int j) P := rd_intC (C := CDivN) (g := fun i j => i.fdiv j) hc p
theorem rd_leI {i j : Int} (p : P (.bool (decide (i ≤ j)))) : RD K rLe env (.int i) (.int j) P := fun B σ G H x y Q I rx ry q => .inl (rd_cmp (g := fun i j => decide (i ≤ j)) p B σ G H x y Q I rx ry q)
theorem rd_leS {i j : Str} (p : P (.bool (!decide (j.cps.toList < i.cps.toList)))) : RD K rLe env (.str i) (.str j) P := fun B σ G H x y Q I rx ry q => by
  cases rx; cases ry; exact .inr ⟨i, j, rfl, rfl, q _ G H _ p (Ex.refl G) I (.bl _)⟩
theorem rd_ltI {i j : Int} (p : P (.bool (decide (i < j)))) : RD K (rI0 fun i j => .bl (decide (i < j))) env (.int i) (.int j) P := rd_cmp (g := fun i j => decide (i < j)) p
theorem rd_gtI {i j : Int} (p : P (.bool (decide (j < i)))) : RD K (rI0 fun i j => .bl (decide (j < i))) env (.int i) (.int j) P := rd_cmp (g := fun i j => decide (j < i)) p
theorem rd_geI {i j : Int} (p : P (.bool (decide (j ≤ i)))) : RD K (rI0 fun i j => .bl (decide (j ≤ i))) env (.int i) (.int j) P := rd_cmp (g := fun i j => decide (j ≤ i)) p
/-- a thing that == goes over -/
def eqOk (d : PyData) : Bool := noDict d && SeqAt.shaped d
theorem rd_eq {d e : PyData} (hd : eqOk d = true) (he : eqOk e = true) (p : P (.bool (PyData.eqv d e))) : RD K (rEqD K) env d e P := rd_keep p fun G H x y Q x1 rx ry q => by
  simp only [eqOk, Bool.and_eq_true] at hd he
  exact ⟨d, e, Dd.dp d x hd.1 (rx.ex x1), Dd.dp e y he.1 (ry.ex x1), hd.2, he.2, q _ (.bl _)⟩
theorem rd_ne {d e : PyData} (hd : eqOk d = true) (he : eqOk e = true) (p : P (.bool (!PyData.eqv d e))) : RD K (rNeD K) env d e P := rd_keep p fun G H x y Q x1 rx ry q => by
  simp only [eqOk, Bool.and_eq_true] at hd he
  exact ⟨d, e, Dd.dp d x hd.1 (rx.ex x1), Dd.dp e y he.1 (ry.ex x1), hd.2, he.2, q _ (.bl _)⟩
theorem rd_isB {a b : Bool} (p : P (.bool (decide (a = b)))) : RD K rIsAny env (.bool a) (.bool b) P := rd_keep p fun G H x y Q x1 rx ry q => by
  cases rx; cases ry; exact .inl ⟨a, b, rfl, rfl, q _ (.bl _)⟩
theorem rd_isNotB {a b : Bool} (p : P (.bool (!decide (a = b)))) : RD K rIsNotAny env (.bool a) (.bool b) P := rd_keep p fun G H x y Q x1 rx ry q => by
  cases rx; cases ry; exact .inl ⟨a, b, rfl, rfl, q _ (.bl _)⟩
def isNone : PyData → Bool
  | .none => true
  | _ => false
theorem Dd.isNone {H : Hp} {x : V} {d : PyData} (r : Dd H x d) : decide (x = .non) = isNone d := by
  cases r <;> rfl
theorem rd_isN {d : PyData} (p : P (.bool (isNone d))) : RD K rIsAny env d .none P := rd_keep p fun G H x y Q x1 rx ry q => by
  cases ry; refine .inr ⟨rfl, q _ ?_⟩; rw [rx.isNone]; exact .bl _
theorem rd_isNotN {d : PyData} (p : P (.bool (!isNone d))) : RD K rIsNotAny env d .none P := rd_keep p fun G H x y Q x1 rx ry q => by
  cases ry; refine .inr ⟨rfl, q _ ?_⟩; rw [rx.isNone]; exact .bl _
theorem rd_inS {i j : Str} (p : P (.bool (!(Builtin.Str.occurrences j i 0 j.length 1).isEmpty))) : RD K (fun x y H Q => ∃ i j, x = .str i ∧ y = .str j ∧ Q (.bl (!(Builtin.Str.occurrences j i 0 j.length 1).isEmpty)) H) env (.str i) (.str j) P :=
  rd_keep p fun G H x y Q x1 rx ry q => by
    cases rx; cases ry; exact ⟨i, j, rfl, rfl, q _ (.bl _)⟩
/-! items -/
theorem DdAll.atI {G : Hp} {xs : List V} {ds : List PyData} {i : Int} {d : PyData} (r : DdAll G xs ds) (h : L2.atI ds i = some d) : ∃ v, L2.atI xs i = some v ∧ Dd G v d := by
  unfold L2.atI at h ⊢
  rw [r.length]
  cases e : ixN ds.length i with
  | none => rw [e] at h; cases h
  | some j =>
    rw [e] at h
    exact r.get h
theorem rd_ixL {ds : List PyData} {i : Int} {d : PyData} (h : L2.atI ds i = some d) (p : P d) : RD K (rIx K) env (.list ds) (.int i) P := rd_keep p fun G H x y Q x1 rx ry q => by
  cases rx with
  | lst h1 r1 =>
    cases ry
    obtain ⟨v, hv, rv⟩ := r1.atI h
    exact .inl ⟨_, _, i, v, rfl, rfl, SqL.of (x1 _ _ h1), hv, q v rv⟩
theorem rd_ixT {ds : List PyData} {i : Int} {d : PyData} (h : L2.atI ds i = some d) (p : P d) : RD K (rIx K) env (.tuple ds) (.int i) P := rd_keep p fun G H x y Q x1 rx ry q => by
  cases rx with
  | tup h1 r1 =>
    cases ry
    obtain ⟨v, hv, rv⟩ := r1.atI h
    exact .inr (.inl ⟨_, _, i, v, rfl, rfl, SqT.of (x1 _ _ h1), hv, q v rv⟩)
theorem rd_ixS {z : Str} {i : Int} {c : Nat} (hl : z.length ≤ sizeLine) (h : L2.atI z.cps.toList i = some c) (p : P (.str ⟨#[c]⟩)) : RD K (rIx K) env (.str z) (.int i) P := rd_keep p fun G H x y Q x1 rx ry q => by
  cases rx; cases ry; exact .inr (.inr ⟨z, i, c, rfl, rfl, hl, h, q _ (.str _)⟩)
/-! slices -/
def cutD (xs : List PyData) (lo hi : Option Int) : List PyData := (xs.drop (HT.sIx xs.length 0 lo)).take (HT.sIx xs.length xs.length hi - HT.sIx xs.length 0 lo)
theorem rs_list {ds : List PyData} {lo hi : Option Int} (p : P (.list (cutD ds lo hi))) : RS K (rSlice K) env (.list ds) lo hi P := fun B σ G H x Q I rx q => by
  cases rx with
  | lst h1 r1 =>
    refine .inl ⟨_, _, rfl, SqL.of (I.exH _ _ h1), fun p' np => ?_⟩
    have n := I.exH.fresh np
    refine q _ _ _ _ p (Ex.new n) (I.new np) (.lst upd_same (DdAll.ex ?_ (Ex.new n)))
    unfold cutV cutD
    rw [r1.length]
    exact (r1.drop _).take _
theorem rs_tup {ds : List PyData} {lo hi : Option Int} (p : P (.tuple (cutD ds lo hi))) : RS K (rSlice K) env (.tuple ds) lo hi P := fun B σ G H x Q I rx q => by
  cases rx with
  | tup h1 r1 =>
    rename_i a zs
    have rc : DdAll G (cutV zs lo hi) (cutD ds lo hi) := by
      unfold cutV cutD
      rw [r1.length]
      exact (r1.drop _).take _
    refine .inr (.inl ⟨_, _, rfl, SqT.of (I.exH _ _ h1), fun e => ?_, fun _ p' np => ?_⟩)
    · have e' : cutV zs lo hi = zs := by
        unfold cutV
        rw [e.1, e.2]
        show List.take _ (List.drop 0 _) = _
        rw [List.drop_zero, Nat.sub_zero, List.take_length]
      rw [e'] at rc
      exact q _ G H _ p (Ex.refl G) I (.tup h1 rc)
    · have n := I.exH.fresh np
      exact q _ _ _ _ p (Ex.new n) (I.new np) (.tup upd_same (rc.ex (Ex.new n)))
end
end FD

set_option Elab.async false
set_option linter.all false
set_option maxRecDepth 100000
set_option maxHeartbeats 2000000
namespace FD
open PySem PySem.Spec PyProof.Rows L2

section
variable {K : PySem.W.Frag} {env : En} {P : PyData → Prop}
theorem rc_keep {r : List V → Hp → VK → Prop} {ds : List PyData} {f : PyData} (p : P f) (h : ∀ (G H : Hp) (xs : List V) (Q : VK), Ex G H → DdAll G xs ds → (∀ v, Dd G v f → Q v H) → r xs H Q) : RC K r env ds P :=
  fun B σ G H xs Q I rx q => h G H xs Q I.exH rx fun v rv => q v G H f p (Ex.refl G) I rv
theorem DdAll.one {G : Hp} {xs : List V} {d : PyData} (h : DdAll G xs [d]) : ∃ x, xs = [x] ∧ Dd G x d := by
  cases h with
  | cons h1 h2 => cases h2; exact ⟨_, rfl, h1⟩
theorem DdAll.two {G : Hp} {xs : List V} {d e : PyData} (h : DdAll G xs [d, e]) : ∃ x y, xs = [x, y] ∧ Dd G x d ∧ Dd G y e := by
  cases h with
  | cons h1 h2 =>
    obtain ⟨y, rfl, hy⟩ := h2.one
    exact ⟨_, y, rfl, h1, hy⟩
/-! len, all, int, tuple, max, min -/
def rLen (K : PySem.W.Frag) : List V → Hp → VK → Prop := fun xs H Q => ∃ x n, xs = [x] ∧ LenV K x H n ∧ Q (.int n) H
theorem rc_lenL {ds : List PyData} (p : P (.int ds.length)) : RC K (rLen K) env [.list ds] P := rc_keep p fun G H xs Q x1 rx q => by
  obtain ⟨x, rfl, h⟩ := rx.one
  cases h with
  | lst h1 h2 => exact ⟨_, _, rfl, .inl ⟨_, SqL.of (x1 _ _ h1), rfl⟩, by rw [h2.length]; exact q _ (.int _)⟩
theorem rc_lenT {ds : List PyData} (p : P (.int ds.length)) : RC K (rLen K) env [.tuple ds] P := rc_keep p fun G H xs Q x1 rx q => by
  obtain ⟨x, rfl, h⟩ := rx.one
  cases h with
  | tup h1 h2 => exact ⟨_, _, rfl, .inr ⟨_, SqT.of (x1 _ _ h1), rfl⟩, by rw [h2.length]; exact q _ (.int _)⟩
theorem rc_lenS {z : Str} (hl : z.length ≤ sizeLine) (p : P (.int z.length)) : RC K (rLen K) env [.str z] P := rc_keep p fun G H xs Q x1 rx q => by
  obtain ⟨x, rfl, h⟩ := rx.one
  cases h
  exact ⟨_, _, rfl, ⟨hl, rfl⟩, q _ (.int _)⟩
theorem bls_of {G : Hp} : ∀ {xs : List V} {bs : List Bool}, DdAll G xs (bs.map .bool) → xs = bs.map V.bl
  | _, [], h => by cases h; rfl
  | _, b :: bs, h => by
    cases h with
    | cons h1 h2 =>
      cases h1
      rw [List.map_cons, ← bls_of h2]
theorem rc_all {bs : List Bool} (p : P (.bool (bs.all id))) : RC K (rAll K) env [.list (bs.map .bool)] P := rc_keep p fun G H xs Q x1 rx q => by
  obtain ⟨x, rfl, h⟩ := rx.one
  cases h with
  | lst h1 h2 =>
    obtain rfl := bls_of h2
    exact ⟨_, bs, rfl, SqL.of (x1 _ _ h1), q _ (.bl _)⟩
def rInt : List V → Hp → VK → Prop := fun xs H Q => (∃ i, xs = [.int i] ∧ Q (.int i) H) ∨ ∃ k, xs = [.bl k] ∧ Q (.int (if k then 1 else 0)) H
theorem rc_int {i : Int} (p : P (.int i)) : RC K rInt env [.int i] P := rc_keep p fun G H xs Q x1 rx q => by
  obtain ⟨x, rfl, h⟩ := rx.one
  cases h
  exact .inl ⟨i, rfl, q _ (.int _)⟩
theorem rc_intB {b : Bool} (p : P (.int (if b then 1 else 0))) : RC K rInt env [.bool b] P := rc_keep p fun G H xs Q x1 rx q => by
  obtain ⟨x, rfl, h⟩ := rx.one
  cases h
  exact .inr ⟨b, rfl, q _ (.int _)⟩
def rMax2 : List V → Hp → VK → Prop := fun xs H Q => ∃ i j, xs = [.int i, .int j] ∧ Q (.int (if j > i then j else i)) H
def rMin2 : List V → Hp → VK → Prop := fun xs H Q => ∃ i j, xs = [.int i, .int j] ∧ Q (.int (if j < i then j else i)) H
theorem rc_max {i j : Int} (p : P (.int (if j > i then j else i))) : RC K rMax2 env [.int i, .int j] P := rc_keep p fun G H xs Q x1 rx q => by
  obtain ⟨x, y, rfl, h1, h2⟩ := rx.two
  cases h1; cases h2
  exact ⟨i, j, rfl, q _ (.int _)⟩
theorem rc_min {i j : Int} (p : P (.int (if j < i then j else i))) : RC K rMin2 env [.int i, .int j] P := rc_keep p fun G H xs Q x1 rx q => by
  obtain ⟨x, y, rfl, h1, h2⟩ := rx.two
  cases h1; cases h2
  exact ⟨i, j, rfl, q _ (.int _)⟩
def rTuple (K : PySem.W.Frag) : List V → Hp → VK → Prop := fun xs H Q => ∃ p ys, xs = [.ref p] ∧ ((SqL K H p ys ∧ ∀ l, H l = none → Q (.ref l) (upd H l (.tup ys))) ∨ (SqT K H p ys ∧ Q (.ref p) H))
theorem rc_tuple {ds : List PyData} (p : P (.tuple ds)) : RC K (rTuple K) env [.list ds] P := fun B σ G H xs Q I rx q => by
  obtain ⟨x, rfl, h⟩ := rx.one
  cases h with
  | lst h1 h2 =>
    refine ⟨_, _, rfl, .inl ⟨SqL.of (I.exH _ _ h1), fun l nl => ?_⟩⟩
    have n := I.exH.fresh nl
    exact q _ _ _ _ p (Ex.new n) (I.new nl) (.tup upd_same (h2.ex (Ex.new n)))
/-! repr -/
theorem rc_reprN (p : P (.str "None")) : RC K (rRepr K) env [.none] P := rc_keep p fun G H xs Q x1 rx q => by
  obtain ⟨x, rfl, h⟩ := rx.one
  cases h
  exact ⟨_, rfl, .inl ⟨rfl, q _ (.str _)⟩⟩
theorem rc_reprI {i : Int} (hi : i.natAbs.log2 < 1920) (p : P (.str (toString i))) : RC K (rRepr K) env [.int i] P := rc_keep p fun G H xs Q x1 rx q => by
  obtain ⟨x, rfl, h⟩ := rx.one
  cases h
  exact ⟨_, rfl, .inr (.inl ⟨i, rfl, hi, q _ (.str _)⟩)⟩
/-- what repr goes over -/
structure ReprOk (d : PyData) : Prop where
  nd : noDict d = true
  sh : d.showable = true
  hd : d.hasDict = false
  dp : d.depth ≤ 60
  sz : d.shown.length ≤ sizeLine
theorem rc_reprT {ds : List PyData} (o : ReprOk (.tuple ds)) (p : P (.str (PyData.tuple ds).shown)) : RC K (rRepr K) env [.tuple ds] P := rc_keep p fun G H xs Q x1 rx q => by
  obtain ⟨x, rfl, h⟩ := rx.one
  have dp := Dd.dp (K := K) _ _ o.nd (h.ex x1)
  cases h with
  | tup h1 h2 => exact ⟨_, rfl, .inr (.inr ⟨_, _, rfl, dp, o.sh, o.hd, o.dp, o.sz, q _ (.str _)⟩)⟩
theorem rc_reprL {ds : List PyData} (o : ReprOk (.list ds)) (p : P (.str (PyData.list ds).shown)) : RC K (rRepr K) env [.list ds] P := rc_keep p fun G H xs Q x1 rx q => by
  obtain ⟨x, rfl, h⟩ := rx.one
  have dp := Dd.dp (K := K) _ _ o.nd (h.ex x1)
  cases h with
  | lst h1 h2 => exact ⟨_, rfl, .inr (.inr ⟨_, _, rfl, dp, o.sh, o.hd, o.dp, o.sz, q _ (.str _)⟩)⟩
/-! isinstance -/
def tyN : PyData → String
  | .none => "NoneType"
  | .bool _ => "bool"
  | .int _ => "int"
  | .str _ => "str"
  | .list _ => "list"
  | .tuple _ => "tuple"
  | .dict _ => "dict"
theorem Dd.tyx {G H : Hp} {x : V} {d : PyData} (r : Dd G x d) (e : Ex G H) : TyX K H x (.type (tyN d)) := by
  cases r with
  | non => exact .base .non
  | bl b => exact .base (.bl b)
  | int i => exact .base (.int i)
  | str z => exact .base (.str z)
  | lst h1 _ => exact .base (.lst (e _ _ h1))
  | tup h1 _ => exact .base (.tup (e _ _ h1))
  | dct h1 _ => exact .base (.dK (e _ _ h1))
/-- isinstance(d, n) for the four types that are asked -/
def isTy (n : String) (d : PyData) : Bool :=
  match n, d with
  | "int", .int _ => true
  | "int", .bool _ => true
  | "bool", .bool _ => true
  | "str", .str _ => true
  | "tuple", .tuple _ => true
  | "list", .list _ => true
  | _, _ => false
theorem kit_is {d : PyData} {n : String} (h : n = "int" ∨ n = "bool" ∨ n = "str" ∨ n = "tuple" ∨ n = "list") : PySem.W.kitOne K (.type (tyN d)) (.type n) = some (isTy n d) := by
  apply kit_ty
  rcases h with rfl | rfl | rfl | rfl | rfl <;> cases d <;> simp only [tyN] <;> first | (show kitB _ _ = some true; decide +kernel) | (show kitB _ _ = some false; decide +kernel)
theorem ev_isi {te : TE} {n : String} {P : En → PyData → Prop} (hn : n = "int" ∨ n = "bool" ∨ n = "str" ∨ n = "tuple" ∨ n = "list") (h : EvE K te env fun e1 d => P e1 (.bool (isTy n d))) : EvE K (tCB (rIsi K) (tCons te (tCons (tC (.ty n)) tNil))) env P := fun B σ G H Q I q =>
  h B σ G H _ I fun x G1 H1 e1 d p1 x1 I1 r1 => ⟨x, .ty n, _, _, isTy n d, rfl, .ty n, r1.tyx I1.exH, kit_is hn, q _ G1 H1 e1 _ p1 x1 I1 (.bl _)⟩
/-! chains -/
theorem ev_chain {r r' : R2} {ta tb tc : TE} {P : En → PyData → Prop} (h : EvE K ta env fun e1 d1 => EvE K tb e1 fun e2 d2 => RD K r e2 d1 d2 fun f => ∃ k, f = .bool k ∧
    (k = true → EvE K tc e2 fun e3 d3 => RD K r' e3 d2 d3 (P e3)) ∧ (k = false → P e2 (.bool false))) : EvE K (tChain r r' ta tb tc) env P := fun B σ G H Q I q =>
  h B σ G H _ I fun x G1 H1 e1 d1 p1 x1 I1 r1 => p1 B σ G1 H1 _ I1 fun y G2 H2 e2 d2 p2 x2 I2 r2 => p2 B σ G2 H2 x y _ I2 (r1.ex x2) r2 fun v G3 H3 f p3 x3 I3 r3 => by
    obtain ⟨k, rfl, ht, hf⟩ := p3
    cases r3
    refine ⟨k, rfl, ?_⟩
    cases k with
    | true => exact iteT (ht rfl B σ G3 H3 _ I3 fun z G4 H4 e4 d4 p4 x4 I4 r4 => p4 B σ G4 H4 y z Q I4 ((r2.ex x3).ex x4) r4 fun w G5 H5 f5 p5 x5 I5 r5 => q w G5 H5 e4 f5 p5 ((((x1.trans x2).trans x3).trans x4).trans x5) I5 r5)
    | false => exact iteF (q _ G3 H3 e2 _ (hf rfl) ((x1.trans x2).trans x3) I3 (.bl _))
/-! a list of one's own -/
variable {O : Outs}
theorem es_own {i : Nat} (h : ∀ p : Addr, O.nx (env.set i (some (.own p [])))) : EvS K (tAsg (tLst tNil) (gName i)) env O := fun B σ G H D I a b c d f => by
  refine ⟨Nat.zero_le _, fun p np => ?_⟩
  have I2 : EnvOk K B G (upd H p (.lst [])) σ env := by
    refine ⟨I.exH.trans (Ex.new np), I.exG, fun q u hq hm => Ex.new np _ _ (I.keep q u hq hm), I.nog, fun q u hq => ?_, I.mus, I.len, fun j s e => ?_, I.mine, I.inj⟩
    · obtain ⟨w, hw⟩ := I.there q u hq
      exact ⟨w, Ex.new np _ _ hw⟩
    · obtain ⟨v, h1, h2⟩ := I.sl j s e
      exact ⟨v, h1, h2.ex (Ex.refl _) (fun q hq => (h2.has hq).2.1) fun q u hq hu => Ex.new np _ _ hu⟩
  have bp : B.H p = none := by
    cases z : B.H p with
    | none => rfl
    | some o => obtain ⟨u, hu⟩ := I.there p o z; rw [np] at hu; cases hu
  refine a _ G _ _ (h p) (Ex.refl G) (I2.setO (s := .own p []) ⟨rfl, I.exH.fresh np, [], upd_same, .nil⟩ rfl bp fun j t e z => ?_)
  obtain ⟨v, _, h2⟩ := I.sl j t e
  obtain ⟨_, _, o, ho⟩ := h2.has z
  rw [np] at ho; cases ho
theorem es_append {i : Nat} {te : TE} {p : Addr} {ds0 : List PyData} (h0 : env[i]? = some (some (.own p ds0)))
    (h : EvE K te env fun e1 d => ∃ ds, e1[i]? = some (some (.own p ds)) ∧ ds.length < sizeLine ∧ O.nx (e1.set i (some (.own p (ds ++ [d]))))) : EvS K (tDrop (tBM K "list" rAppend (tVar i) (tCons te tNil))) env O := fun B σ G H D I a b c d f => by
  obtain ⟨v0, hv0, rfl, g0, xs0, hx0, r0⟩ := I.sl i _ h0
  refine ⟨_, hv0, .inl ⟨rfl, _, SqL.of hx0⟩, ?_⟩
  refine h B σ G H _ I fun y G1 H1 e1 d1 p1 x1 I1 r1 => ?_
  obtain ⟨ds, he, hl, hn⟩ := p1
  obtain ⟨v1, hv1, rfl, g1, xs1, hx1, r2⟩ := I1.sl i _ he
  refine ⟨p, xs1, y, rfl, rfl, hx1, by rw [r2.length]; exact hl, ?_⟩
  refine a σ G1 _ _ hn x1 (I1.put he rfl rfl rfl ⟨rfl, g1, _, upd_same, r2.append (.cons r1 .nil)⟩)
/-- a list of one's own, read: from now on it stays -/
theorem ev_own {i : Nat} {p : Addr} {ds : List PyData} {P : En → PyData → Prop} (h : env[i]? = some (some (.own p ds))) (q : P (env.set i (some (.dat (.list ds)))) (.list ds)) : EvE K (tVar i) env P := fun B σ G H Q I k => by
  obtain ⟨v, hv, rfl, g, xs, hx, r⟩ := I.sl i _ h
  have bp : B.H p = none := by
    rcases I.mine i _ p h rfl with m | m
    · exact m
    · cases m.2
  have I2 := (I.forget i).freeze hx g (fun j s e a => by
    by_cases z : i = j
    · subst z
      by_cases q : i < env.length
      · rw [List.getElem?_set_self q] at e; cases e
      · rw [List.getElem?_eq_none (by omega)] at h; cases h
    · rw [List.getElem?_set_ne z] at e; exact z (I.inj _ _ _ _ _ h e rfl a)) bp
  have rd : Dd (upd G p (.lst xs)) (.ref p) (.list ds) := .lst upd_same (r.ex (Ex.new g))
  have I3 := I2.tell hv rd
  rw [List.set_set] at I3
  exact ⟨_, hv, k _ _ H _ _ q (Ex.new g) I3 rd⟩
end
end FD

set_option Elab.async false
set_option linter.all false
set_option maxRecDepth 100000
set_option maxHeartbeats 2000000
namespace FD
open PySem PySem.Spec PyProof.Rows L2

/-! ### a def's promise where no repr is under way around it -/
section
variable (P : Program) (w : World) (K : PySem.W.Frag) (mg : Str → Option Value) (base : Heap)
structure FnG (k : Nat) (f : Addr) (fd : FuncData) (ps : List Str) (sp : Sp) : Prop where
  len : ∀ vs H Q E, sp vs H Q E → vs.length = ps.length
  run : ∀ (A : Around) (outer : List PySem.Env) (s : Shared) (H : Hp) (args : Args) (us : List Value) (vs : List V) (Q : VK), A.guards = some [] → Room k A → Env0 P w K mg base A outer s H →
    BindsTo s fd args (ps.zip us) → Vals vs us → sp vs H Q E0 → codeAny (model P w) A (.call (.ref f) args) (fun r s' => ∃ u, r = .ok (.ret u) ∧ CE outer P w H s Q u s') s
/-- a def that can be called by its name -/
structure Cal (k : Nat) (x : Str) (ps : List Str) (sp : Sp) : Prop where
  ex : ∃ f fd, FnG P w K mg base k f fd ps sp ∧ mg x = some (.ref f) ∧ PySem.W.keepIn K (.ref f) = true ∧ Binds K fd ps []
end
section
variable {P : Program} {w : World} {K : PySem.W.Frag} {mg : Str → Option Value} {base : Heap}
theorem fnG_of {x qual : Str} {st : Stmt} {f : Addr} {fd : FuncData} {N ps : List Str} {k : Nat} {sp : Sp} (F : L2.Fun K x qual st f fd) (S : FnScope N ps (defScope st)) (len : ∀ vs H Q E, sp vs H Q E → vs.length = ps.length)
    (hb : ∀ (cdv : Value) (A : Around) (outer : List PySem.Env) (s : Shared) (H : Hp) (vs : List V) (Q : VK), A.guards = some [] → Room k (A.deeper (envOfC qual (defScope st) s.heap.objs.size f cdv)) → sp vs H Q E0 →
      ∃ t, PSs (cxOf CX0 P w K mg base N qual (defScope st) f cdv A outer s H E0).nox (defBody st) t ∧ t { nx := fun _ H' => Q .non H', rt := Q } (start N vs) H) : FnG P w K mg base (k + 1) f fd ps sp := by
  obtain ⟨oc, od, kV, doc, pm, an, cdv, ct, osl, rfl, lk, hcd⟩ := F.ex
  refine ⟨len, fun A outer s H args us vs Q hg room e0 bd rel hsp => ?_⟩
  have hln := len _ _ _ _ hsp
  have kin : K.In s.heap := e0.mod.kin.keeps fun b o z => (e0.bs b o z).1
  have nl : s.heap.NoLimit := e0.mod.nolimit.keeps fun b o z => (e0.bs b o z).1
  have kinds : ∀ z ∈ ps.zip us, (defScope st).names.lookup z.1 = some .local ∨ ((defScope st).names.lookup z.1 = some .cell ∧ ((cellsFrom (s.heap.objs.size + 1) (defScope st).names []).lookup z.1).isSome = true) := by
    rintro ⟨m, v⟩ hz
    rcases S.par m (List.of_mem_zip hz).1 with q | q
    · exact .inl q
    · exact .inr ⟨q, PySem.W.cellsFrom_some _ _ _ (.inl q)⟩
  refine codeAny_call_function room.depth (kin _ _ lk) rfl S.co S.gen rfl (PySem.W.codeRec_of kin hcd) (bd _ _ _ _ ?_)
  refine wpAny_newFunctionEnv_cells S.kind kinds fun env henv s1 hx => ?_
  subst henv
  refine ⟨nl.keeps hx.toInCall.keep, codeAny_func ?_⟩
  obtain ⟨t, ht, hq⟩ := hb cdv A outer s H vs Q hg (room.deeper _) hsp
  have J : Inv (cxOf CX0 P w K mg base N qual (defScope st) f cdv A outer s H E0) [] (start N vs) H s1 := inv_start S room.hd e0 hln rel hx
  refine wpAny_mono (ht.nox.run [] s1 (start N vs) H _ J hq) (fun fl s2 h2 => ?_) fun e s2 h2 => ?_
  · cases fl with
    | ret u =>
      obtain ⟨v, σ', H', J', rv, q⟩ := h2
      exact ⟨u, rfl, v, H', J'.os, J'.bare, J'.base, J'.hok, rv, q⟩
    | next =>
      obtain ⟨σ', H', J', q⟩ := h2
      exact ⟨Value.none, rfl, .non, H', J'.os, J'.bare, J'.base, J'.hok, rfl, q⟩
    | brk => obtain ⟨_, _, _, q⟩ := h2; exact q.elim
    | cont => obtain ⟨_, _, _, q⟩ := h2; exact q.elim
  · exact wpAny_mono h2 (fun _ _ z => False.elim z) fun _ _ z => False.elim z
/-- a level more -/
theorem FnG.mono {j k : Nat} {f : Addr} {fd : FuncData} {ps : List Str} {sp : Sp} (F : FnG P w K mg base j f fd ps sp) (h : j ≤ k) : FnG P w K mg base k f fd ps sp :=
  ⟨F.len, fun A outer s H args us vs Q hg hr => F.run A outer s H args us vs Q hg (hr.mono h)⟩
end
/-- a call of a def that promises sp -/
def callOf (sp : Sp) : List V → Hp → VK → Prop := fun vs H Q => sp vs H Q E0
/-! ### calls -/
section
variable {X : Cx} {k : Nat} {ps : List Str} {sp : Sp} {x : Str} {p pos : Pos} {e : Expr} {es : List Expr} {t : TA}
theorem runG {f : Addr} {fd : FuncData} {pins : List (Addr × Obj)} {σ : L2.St} {H : Hp} {s : Shared} {Q : VK} {us : List Value} {vs : List V} (F : FnG X.prog X.w X.K X.mg X.base k f fd ps sp) (hg : X.A.guards = some []) (hr : Room k X.A) (hb : Binds X.K fd ps [])
    (I : Inv X pins σ H s) (r : Vals vs us) (h : sp vs H Q E0) : wpAny (model X.prog X.w) X.A (call (.ref f) us) (EP X pins σ Q) X.xe s := by
  have hl : (us ++ []).length = ps.length := by rw [List.append_nil, ← r.length]; exact F.len _ _ _ _ h
  have bd := hb s us I.kIn hl
  rw [List.append_nil] at bd
  refine wpAny_call (codeAny_mono (F.run X.A X.stack s H ⟨us, []⟩ us vs Q hg hr I.env0 bd r h) fun rr s' hq => ?_)
  obtain ⟨u, rfl, hc⟩ := hq
  exact I.after hc
theorem pe_cal (C : Cal X.prog X.w X.K X.mg X.base k x ps sp) (hg : X.A.guards = some []) (hr : Room k X.A) (hx : Gl X x) (ha : PA X (e :: es) t) (hdb : (x == ("__debug__" : Str)) = false := by decide)
    (he : starEach (e :: es) X.env = (false, eval e X.env) :: starEach es X.env := by rfl) (hpl : (backTo pos (starEach es X.env)).any (·.1) = false := by rfl) :
    PE X (.Call (.Name x p) (e :: es) [] pos) (tCB (callOf sp) t) := by
  obtain ⟨f, fd, F, hm, hk, hb⟩ := C.ex
  refine ⟨fun pins s σ H Q J h => wpAny_Call_Name_kw (ld_glob J hx hm ?_ hdb)⟩
  exact PySem.W.callWith_K (h₀ := X.base) J.ok.mod.kin hk (thn (ha.run pos pins s σ H _ J h) fun us s1 ⟨vs, H1, J1, r, q⟩ => ⟨J1.kIn, runG F hg hr hb J1 r q⟩) he hpl
theorem pe_cal0 (C : Cal X.prog X.w X.K X.mg X.base k x ps sp) (hg : X.A.guards = some []) (hr : Room k X.A) (hx : Gl X x) (hdb : (x == ("__debug__" : Str)) = false := by decide) :
    PE X (.Call (.Name x p) [] [] pos) (tCB (callOf sp) tNil) := by
  obtain ⟨f, fd, F, hm, hk, hb⟩ := C.ex
  refine ⟨fun pins s σ H Q J h => wpAny_Call_Name_kw (ld_glob J hx hm ?_ hdb)⟩
  exact PySem.W.callWith_K0 J.kIn hk (runG (us := []) F hg hr hb J .nil h)
end
/-! ### promises over data -/
/-- from data to data; all that was known stays -/
def spD (n : Nat) (pre : List PyData → Prop) (post : List PyData → PyData → Prop) : Sp := fun vs H Q _ => ∃ (G : Hp) (ds : List PyData), Ex G H ∧ DdAll G vs ds ∧ ds.length = n ∧ pre ds ∧
  ∀ v G' H' d, post ds d → Ex G G' → Ex G' H' → Ex H H' → (∀ q o, H q = some o → G q = none → G' q = none) → Dd G' v d → Q v H'
/-- the first argument is the pile, which changes -/
def spP (n : Nat) (pre : List PyData → Prop) (post : List PyData → PyData → Prop) : Sp := fun vs H Q _ => ∃ (G : Hp) (ds : List PyData) (p : Addr) (rest : List V), vs = .ref p :: rest ∧ Ex G H ∧ G p = none ∧ PileAt H p ∧ DdAll G rest ds ∧ ds.length = n ∧ pre ds ∧
  ∀ v G' H' d, post ds d → Ex G G' → Ex G' H' → (∀ q o, H q = some o → q ≠ p → H' q = some o) → G' p = none → PileAt H' p → (∀ q o, H q = some o → G q = none → G' q = none) → Dd G' v d → Q v H'
/-- the first argument is the script; a new pile comes -/
def spN (K : PySem.W.Frag) : Sp := fun vs H Q _ => ∃ (G : Hp) (p : Addr) (ns : List Int) (k : Int), vs = [.ref p, .int k] ∧ Ex G H ∧ SqL K G p (ns.map V.int) ∧ ns.length ≤ 63 ∧ 0 ≤ k ∧
  ∀ q G' H', Ex G G' → Ex G' H' → Ex H H' → (∀ q o, H q = some o → G q = none → G' q = none) → H q = none → G' q = none → PileAt H' q → Q (.ref q) H'
section
variable {K : PySem.W.Frag} {env : En} {P : En → PyData → Prop} {ta : TA} {pre : List PyData → Prop} {post : List PyData → PyData → Prop} {n : Nat} {O : Outs}
/-- behind a call that leaves all as it was -/
theorem EnvOk.went {B : Bs} {G H G' H' : Hp} {σ : L2.St} (I : EnvOk K B G H σ env) (x1 : Ex G G') (x2 : Ex G' H') (x3 : Ex H H') (fr : ∀ q o, H q = some o → G q = none → G' q = none) : EnvOk K B G' H' σ env :=
  ⟨x2, I.exG.trans x1, fun q o a b => x3 _ _ (I.keep q o a b), fun q o a b => by obtain ⟨u, hu⟩ := I.there q o a; exact fr q u hu (I.nog q o a b), fun q o a => by obtain ⟨u, hu⟩ := I.there q o a; exact ⟨u, x3 _ _ hu⟩, I.mus, I.len,
    fun i s e => by
      obtain ⟨v, h1, h2⟩ := I.sl i s e
      exact ⟨v, h1, h2.ex x1 (fun p hp => by obtain ⟨_, g, o, ho⟩ := h2.has hp; exact fr p o ho g) fun p o _ ho => x3 _ _ ho⟩, I.mine, I.inj⟩
theorem ev_call (h : EvAs K ta env fun e1 ds => ds.length = n ∧ pre ds ∧ ∀ d, post ds d → P e1 d) : EvE K (tCB (callOf (spD n pre post)) ta) env P := fun B σ G H Q I q =>
  h B σ G H _ I fun vs G1 H1 e1 ds p1 x1 I1 r1 => ⟨G1, ds, I1.exH, r1, p1.1, p1.2.1, fun v G2 H2 d pd x2 x3 x4 fr rd => q v G2 H2 e1 d (p1.2.2 d pd) (x1.trans x2) (I1.went x2 x3 x4 fr) rd⟩
/-- behind a call that changed the pile -/
theorem EnvOk.wentP {B : Bs} {G H G' H' : Hp} {σ : L2.St} {i : Nat} {p : Addr} (I : EnvOk K B G H σ env) (hi : env[i]? = some (some (.pile p))) (x1 : Ex G G') (x2 : Ex G' H') (x3 : ∀ q o, H q = some o → q ≠ p → H' q = some o) (gp : G' p = none) (pl : PileAt H' p)
    (fr : ∀ q o, H q = some o → G q = none → G' q = none) : EnvOk K B G' H' σ env := by
  have th : ∀ q o, H q = some o → ∃ u, H' q = some u := fun q o a => by
    by_cases z : q = p
    · subst z; obtain ⟨a, b, c, e⟩ := pl; exact ⟨_, e⟩
    · exact ⟨o, x3 q o a z⟩
  refine ⟨x2, I.exG.trans x1, fun q o a b => x3 _ _ (I.keep q o a b) fun z => ?_, fun q o a b => by obtain ⟨u, hu⟩ := I.there q o a; exact fr q u hu (I.nog q o a b), fun q o a => by obtain ⟨u, hu⟩ := I.there q o a; exact th q u hu, I.mus, I.len,
    fun j s e => ?_, I.mine, I.inj⟩
  · subst z
    rcases I.mine i _ q hi rfl with m | m
    · rw [m] at a; cases a
    · exact b m.1
  · obtain ⟨v, h1, h2⟩ := I.sl j s e
    refine ⟨v, h1, ?_⟩
    by_cases z : i = j
    · subst z
      rw [hi] at e
      cases e
      exact ⟨h2.1, gp, pl⟩
    · exact h2.ex x1 (fun r hr => by obtain ⟨_, g, o, ho⟩ := h2.has hr; exact fr r o ho g) fun r o hr ho => x3 r o ho fun w => z (I.inj _ _ _ _ _ hi e rfl (w ▸ hr))
theorem ev_callP {i : Nat} {p : Addr} (hi : env[i]? = some (some (.pile p))) (h : EvAs K ta env fun e1 ds => e1[i]? = some (some (.pile p)) ∧ ds.length = n ∧ pre ds ∧ ∀ d, post ds d → P e1 d) :
    EvE K (tCB (callOf (spP n pre post)) (tCons (tVar i) ta)) env P := fun B σ G H Q I q => by
  obtain ⟨v, h1, rfl, g1, pl⟩ := I.sl i _ hi
  refine ⟨_, h1, ?_⟩
  refine h B σ G H _ I fun vs G1 H1 e1 ds p1 x1 I1 r1 => ?_
  obtain ⟨v2, h2, e2, g2, pl2⟩ := I1.sl i _ p1.1
  exact ⟨G1, ds, p, vs, rfl, I1.exH, g2, pl2, r1, p1.2.1, p1.2.2.1, fun v G2 H2 d pd x2 x3 x4 gp pl fr rd => q v G2 H2 e1 d (p1.2.2.2 d pd) (x1.trans x2) (I1.wentP p1.1 x2 x3 x4 gp pl fr) rd⟩
/-- pile = .. (a new one) -/
theorem es_pile {i j : Nat} {p : Addr} {ns : List Int} {te : TE} (hi : env[i]? = some (some (.script p ns))) (hl : ns.length ≤ 63) (hk : EvE K te env fun e1 d => e1 = env ∧ ∃ k : Int, d = .int k ∧ 0 ≤ k) (h : ∀ q : Addr, O.nx (env.set j (some (.pile q)))) :
    EvS K (tAsg (tCB (callOf (spN K)) (tCons (tVar i) (tCons te tNil))) (gName j)) env O := fun B σ G H D I a b c d f => by
  obtain ⟨v, h1, rfl, g1⟩ := I.sl i _ hi
  refine ⟨_, h1, ?_⟩
  refine hk B σ G H _ I fun y G1 H1 e1 d1 p1 x1 I1 r1 => ?_
  obtain ⟨rfl, k, rfl, k0⟩ := p1
  cases r1
  refine ⟨G1, p, ns, k, rfl, I1.exH, SqL.ex g1 x1, hl, k0, fun q G2 H2 x2 x3 x4 fr nq gq pl => ?_⟩
  have I2 := I1.went x2 x3 x4 fr
  have bq : B.H q = none := by
    cases z : B.H q with
    | none => rfl
    | some o => obtain ⟨u, hu⟩ := I1.there q o z; rw [nq] at hu; cases hu
  refine a _ G2 H2 _ (h q) (x1.trans x2) (I2.setO (s := .pile q) ⟨rfl, gq, pl⟩ rfl bq fun m t e z => ?_)
  obtain ⟨_, _, hs⟩ := I1.sl m t e
  obtain ⟨_, _, o, ho⟩ := hs.has z
  rw [nq] at ho; cases ho
/-- return [a, b, c], the new pile -/
theorem es_retN (h : EvAs K ta env fun e1 ds => (∃ a b c : Int, ds = [.int a, .int b, .int c]) ∧ O.rn e1) : EvS K (tRet (tLst ta)) env O := fun B σ G H D I a b c d f =>
  h B σ G H _ I fun vs G1 H1 e1 ds p1 x1 I1 r1 => by
    obtain ⟨⟨i, j, k, rfl⟩, hn⟩ := p1
    cases r1 with
    | cons r1 r2 =>
      cases r1
      cases r2 with
      | cons r2 r3 =>
        cases r2
        obtain ⟨z, rfl, r4⟩ := r3.one
        cases r4
        refine ⟨by show 3 ≤ sizeLine; decide, fun p np => ?_⟩
        have bp : B.H p = none := by
          cases z : B.H p with
          | none => rfl
          | some o => obtain ⟨u, hu⟩ := I1.there p o z; rw [np] at hu; cases hu
        refine f p σ G1 _ e1 hn x1 ?_ (I1.exH.fresh np) ⟨i, j, k, upd_same⟩ bp
        refine ⟨I1.exH.trans (Ex.new np), I1.exG, fun q u hq hm => Ex.new np _ _ (I1.keep q u hq hm), I1.nog, fun q u hq => ?_, I1.mus, I1.len, fun j s e => ?_, I1.mine, I1.inj⟩
        · obtain ⟨w, hw⟩ := I1.there q u hq
          exact ⟨w, Ex.new np _ _ hw⟩
        · obtain ⟨v, h1, h2⟩ := I1.sl j s e
          exact ⟨v, h1, h2.ex (Ex.refl _) (fun q hq => (h2.has hq).2.1) fun q u _ hu => Ex.new np _ _ hu⟩
end
end FD

set_option Elab.async false
set_option linter.all false
set_option maxRecDepth 100000
set_option maxHeartbeats 2000000
namespace FD
open PySem PySem.Spec PyProof.Rows L2

/-- the slots at a def's entry -/
def stD (n : Nat) (ds : List PyData) : En := ds.map (fun d => some (.dat d)) ++ List.replicate (n - ds.length) none
theorem stD_get {n : Nat} {ds : List PyData} {i : Nat} {s : Sl} (h : (stD n ds)[i]? = some (some s)) : ∃ d, ds[i]? = some d ∧ s = .dat d := by
  unfold stD at h
  by_cases q : i < ds.length
  · rw [List.getElem?_append_left (by simpa using q), List.getElem?_map, List.getElem?_eq_getElem q] at h
    cases h
    exact ⟨_, List.getElem?_eq_getElem q, rfl⟩
  · rw [List.getElem?_append_right (by simpa using q), List.getElem?_replicate] at h
    split at h <;> cases h
theorem start_get {N : List Str} {vs : List V} {i : Nat} {v : V} (h : vs[i]? = some v) : (start N vs)[i]? = some (some v) := by
  have q : i < vs.length := (List.getElem?_eq_some_iff.mp h).1
  unfold L2.start
  rw [List.getElem?_append_left (by simpa using q), List.getElem?_map, h]
  rfl
theorem start_len {N : List Str} {vs : List V} : (start N vs).length = vs.length + (N.length - vs.length) := by
  unfold L2.start; simp
theorem stD_len {n : Nat} {ds : List PyData} : (stD n ds).length = ds.length + (n - ds.length) := by
  unfold stD; simp
section
variable {P : Program} {w : World} {K : PySem.W.Frag} {mg : Str → Option Value} {base : Heap} {x qual : Str} {st : Stmt} {f : Addr} {fd : FuncData} {N ps : List Str} {k : Nat}
theorem startD {G H : Hp} {vs : List V} {ds : List PyData} (e : Ex G H) (r : DdAll G vs ds) : EnvOk K ⟨H, G, fun _ => False⟩ G H (start N vs) (stD N.length ds) := by
  refine ⟨e, Ex.refl G, fun _ _ a _ => a, fun _ _ _ a => a, fun _ o a => ⟨o, a⟩, fun _ z => z.elim, ?_, fun i s h => ?_, fun i s p h a => ?_, fun i j s t p h1 h2 a1 a2 => ?_⟩
  · rw [start_len, stD_len, r.length]
  · obtain ⟨d, hd, rfl⟩ := stD_get h
    obtain ⟨v, hv, rv⟩ := r.get hd
    exact ⟨v, start_get hv, rv⟩
  · obtain ⟨d, _, rfl⟩ := stD_get h
    cases a
  · obtain ⟨d, _, rfl⟩ := stD_get h1
    cases a1
/-- a def from data to data -/
theorem fnD (F : L2.Fun K x qual st f fd) (S : FnScope N ps (defScope st)) (pre : List PyData → Prop) (post : List PyData → PyData → Prop)
    (hb : ∀ (cdv : Value) (A : Around) (outer : List PySem.Env) (s : Shared) (H : Hp), A.guards = some [] → Room k (A.deeper (envOfC qual (defScope st) s.heap.objs.size f cdv)) →
      ∃ t, PSs (cxOf CX0 P w K mg base N qual (defScope st) f cdv A outer s H E0).nox (defBody st) t ∧
        ∀ ds : List PyData, ds.length = ps.length → pre ds → EvS K t (stD N.length ds) { nx := fun _ => post ds .none, rt := fun _ d => post ds d }) : FnG P w K mg base (k + 1) f fd ps (spD ps.length pre post) := by
  refine fnG_of F S (fun vs H Q E ⟨G, ds, _, r, hl, _⟩ => r.length.trans hl) fun cdv A outer s H vs Q hg hr ⟨G, ds, e, r, hl, hp, q⟩ => ?_
  obtain ⟨t, ht, ev⟩ := hb cdv A outer s H hg hr
  refine ⟨t, ht, ev ds hl hp _ _ G H _ (startD e r) (fun σ' G' H' env' p x' I => ?_) (fun v G' H' σ' env' d p x' I rd => ?_) (fun _ _ _ _ z => z.elim) (fun _ _ _ _ z => z.elim) (fun _ _ _ _ _ z => z.elim)⟩
  · exact q .non G' H' .none p x' I.exH (fun a o h => I.keep a o h fun z => z) (fun a o h g => I.nog a o h g) .non
  · exact q v G' H' d p x' I.exH (fun a o h => I.keep a o h fun z => z) (fun a o h g => I.nog a o h g) rd
theorem startP {G H : Hp} {p : Addr} {vs : List V} {ds : List PyData} (e : Ex G H) (g : G p = none) (pl : PileAt H p) (r : DdAll G vs ds) : EnvOk K ⟨H, G, fun q => q = p⟩ G H (start N (.ref p :: vs)) (some (.pile p) :: stD (N.length - 1) ds) := by
  have hs : ∀ (i : Nat) (s : Sl), (some (Sl.pile p) :: stD (N.length - 1) ds)[i]? = some (some s) → (i = 0 ∧ s = .pile p) ∨ ∃ j d, i = j + 1 ∧ ds[j]? = some d ∧ s = .dat d := fun i s h => by
    cases i with
    | zero => rw [List.getElem?_cons_zero] at h; cases h; exact .inl ⟨rfl, rfl⟩
    | succ j =>
      rw [List.getElem?_cons_succ] at h
      obtain ⟨d, hd, rfl⟩ := stD_get h
      exact .inr ⟨j, d, rfl, hd, rfl⟩
  refine ⟨e, Ex.refl G, fun _ _ a _ => a, fun _ _ _ a => a, fun _ o a => ⟨o, a⟩, fun q z => ?_, ?_, fun i s h => ?_, fun i s q h a => ?_, fun i j s t q h1 h2 a1 a2 => ?_⟩
  · obtain rfl : q = p := z
    obtain ⟨a, b, c, z⟩ := pl
    exact ⟨_, z⟩
  · rw [start_len, List.length_cons, List.length_cons, stD_len, r.length]; omega
  · rcases hs i s h with ⟨rfl, rfl⟩ | ⟨j, d, rfl, hd, rfl⟩
    · exact ⟨.ref p, rfl, rfl, g, pl⟩
    · obtain ⟨v, hv, rv⟩ := r.get hd
      exact ⟨v, start_get (by rw [List.getElem?_cons_succ]; exact hv), rv⟩
  · rcases hs i s h with ⟨rfl, rfl⟩ | ⟨j, d, rfl, hd, rfl⟩
    · cases a; exact .inr ⟨rfl, rfl⟩
    · cases a
  · rcases hs i s h1 with ⟨rfl, rfl⟩ | ⟨_, _, _, _, rfl⟩
    · rcases hs j t h2 with ⟨rfl, rfl⟩ | ⟨_, _, _, _, rfl⟩
      · rfl
      · cases a2
    · cases a1
/-- a def whose first argument is the pile -/
theorem fnP (F : L2.Fun K x qual st f fd) (S : FnScope N ps (defScope st)) (hps : ps ≠ []) (pre : List PyData → Prop) (post : List PyData → PyData → Prop)
    (hb : ∀ (cdv : Value) (A : Around) (outer : List PySem.Env) (s : Shared) (H : Hp), A.guards = some [] → Room k (A.deeper (envOfC qual (defScope st) s.heap.objs.size f cdv)) →
      ∃ t, PSs (cxOf CX0 P w K mg base N qual (defScope st) f cdv A outer s H E0).nox (defBody st) t ∧
        ∀ (p : Addr) (ds : List PyData), ds.length = ps.length - 1 → pre ds → EvS K t (some (.pile p) :: stD (N.length - 1) ds) { nx := fun _ => False, rt := fun e d => e[0]? = some (some (.pile p)) ∧ post ds d }) :
    FnG P w K mg base (k + 1) f fd ps (spP (ps.length - 1) pre post) := by
  refine fnG_of F S (fun vs H Q E ⟨G, ds, p, rest, hv, _, _, _, r, hl, _⟩ => ?_) fun cdv A outer s H vs Q hg hr ⟨G, ds, p, rest, hv, e, g, pl, r, hl, hp, q⟩ => ?_
  · rw [hv, List.length_cons, r.length, hl]
    cases ps with
    | nil => exact absurd rfl hps
    | cons a b => simp
  · subst hv
    obtain ⟨t, ht, ev⟩ := hb cdv A outer s H hg hr
    refine ⟨t, ht, ev p ds hl hp _ _ G H _ (startP e g pl r) (fun _ _ _ _ z => z.elim) (fun v G' H' σ' env' d pq x' I rd => ?_) (fun _ _ _ _ z => z.elim) (fun _ _ _ _ z => z.elim) (fun _ _ _ _ _ z => z.elim)⟩
    obtain ⟨v0, _, hs⟩ := I.sl 0 _ pq.1
    exact q v G' H' d pq.2 x' I.exH (fun a o h n => I.keep a o h n) hs.2.1 hs.2.2 (fun a o h g => I.nog a o h g) rd
theorem startN {G H : Hp} {p : Addr} {ns : List Int} {vs : List V} {ds : List PyData} (e : Ex G H) (g : SqL K G p (ns.map V.int)) (r : DdAll G vs ds) : EnvOk K ⟨H, G, fun _ => False⟩ G H (start N (.ref p :: vs)) (some (.script p ns) :: stD (N.length - 1) ds) := by
  have hs : ∀ (i : Nat) (s : Sl), (some (Sl.script p ns) :: stD (N.length - 1) ds)[i]? = some (some s) → (i = 0 ∧ s = .script p ns) ∨ ∃ j d, i = j + 1 ∧ ds[j]? = some d ∧ s = .dat d := fun i s h => by
    cases i with
    | zero => rw [List.getElem?_cons_zero] at h; cases h; exact .inl ⟨rfl, rfl⟩
    | succ j =>
      rw [List.getElem?_cons_succ] at h
      obtain ⟨d, hd, rfl⟩ := stD_get h
      exact .inr ⟨j, d, rfl, hd, rfl⟩
  refine ⟨e, Ex.refl G, fun _ _ a _ => a, fun _ _ _ a => a, fun _ o a => ⟨o, a⟩, fun _ z => z.elim, ?_, fun i s h => ?_, fun i s q h a => ?_, fun i j s t q h1 h2 a1 a2 => ?_⟩
  · rw [start_len, List.length_cons, List.length_cons, stD_len, r.length]; omega
  · rcases hs i s h with ⟨rfl, rfl⟩ | ⟨j, d, rfl, hd, rfl⟩
    · exact ⟨.ref p, rfl, rfl, g⟩
    · obtain ⟨v, hv, rv⟩ := r.get hd
      exact ⟨v, start_get (by rw [List.getElem?_cons_succ]; exact hv), rv⟩
  · rcases hs i s h with ⟨rfl, rfl⟩ | ⟨j, d, rfl, hd, rfl⟩ <;> cases a
  · rcases hs i s h1 with ⟨rfl, rfl⟩ | ⟨_, _, _, _, rfl⟩ <;> cases a1
/-- the def that makes the pile -/
theorem fnN (F : L2.Fun K x qual st f fd) (S : FnScope N ps (defScope st)) (hps : ps.length = 2)
    (hb : ∀ (cdv : Value) (A : Around) (outer : List PySem.Env) (s : Shared) (H : Hp), A.guards = some [] → Room k (A.deeper (envOfC qual (defScope st) s.heap.objs.size f cdv)) →
      ∃ t, PSs (cxOf CX0 P w K mg base N qual (defScope st) f cdv A outer s H E0).nox (defBody st) t ∧
        ∀ (p : Addr) (ns : List Int) (j : Int), ns.length ≤ 63 → 0 ≤ j → EvS K t (some (.script p ns) :: stD (N.length - 1) [.int j]) { nx := fun _ => False, rn := fun _ => True }) : FnG P w K mg base (k + 1) f fd ps (spN K) := by
  refine fnG_of F S (fun vs H Q E ⟨G, p, ns, j, hv, _⟩ => by rw [hv, hps]; rfl) fun cdv A outer s H vs Q hg hr ⟨G, p, ns, j, hv, e, g, hl, hj, q⟩ => ?_
  subst hv
  obtain ⟨t, ht, ev⟩ := hb cdv A outer s H hg hr
  refine ⟨t, ht, ev p ns j hl hj _ _ G H _ (startN e g (.cons (.int j) .nil)) (fun _ _ _ _ z => z.elim) (fun _ _ _ _ _ _ z => z.elim) (fun _ _ _ _ z => z.elim) (fun _ _ _ _ z => z.elim) (fun a σ' G' H' env' _ x' I ga pa ba => ?_)⟩
  exact q a G' H' x' I.exH (fun a o h => I.keep a o h fun z => z) (fun a o h g => I.nog a o h g) ba ga pa
/-- the law -/
def spL (K : PySem.W.Frag) : Sp := fun vs H Q _ => ∃ (p : Addr) (ns : List Int), vs = [.ref p] ∧ SqL K H p (ns.map V.int) ∧ ns.length ≤ 63 ∧ ∀ H', Q (.bl true) H'
theorem fnL (F : L2.Fun K x qual st f fd) (S : FnScope N ps (defScope st)) (hps : ps.length = 1)
    (hb : ∀ (cdv : Value) (A : Around) (outer : List PySem.Env) (s : Shared) (H : Hp), A.guards = some [] → Room k (A.deeper (envOfC qual (defScope st) s.heap.objs.size f cdv)) →
      ∃ t, PSs (cxOf CX0 P w K mg base N qual (defScope st) f cdv A outer s H E0).nox (defBody st) t ∧
        ∀ (p : Addr) (ns : List Int), ns.length ≤ 63 → EvS K t (some (.script p ns) :: stD (N.length - 1) []) { nx := fun _ => False, rt := fun _ d => d = .bool true }) : FnG P w K mg base (k + 1) f fd ps (spL K) := by
  refine fnG_of F S (fun vs H Q E ⟨p, ns, hv, _⟩ => by rw [hv, hps]; rfl) fun cdv A outer s H vs Q hg hr ⟨p, ns, hv, g, hl, q⟩ => ?_
  subst hv
  obtain ⟨t, ht, ev⟩ := hb cdv A outer s H hg hr
  refine ⟨t, ht, ev p ns hl _ _ H H _ (startN (Ex.refl H) g .nil) (fun _ _ _ _ z => z.elim) (fun v G' H' σ' env' d pd x' I rd => ?_) (fun _ _ _ _ z => z.elim) (fun _ _ _ _ z => z.elim) (fun _ _ _ _ _ z => z.elim)⟩
  obtain rfl : d = .bool true := pd
  cases rd
  exact q H'
end
/-! ### the law's end -/
theorem lawG_call {P : Program} {w : World} {K : PySem.W.Frag} {mg mb : Str → Option Value} {k : Nat} {fa a : Addr} {fd : FuncData} {x : Str} {s₁ : Shared} {vs : List Value} {ns : List Int}
    (KX : K.In s₁.heap) (hm : s₁.heap.Ns mainGlobals mg) (hb : s₁.heap.Ns builtinsNs mb) (hbb : ∀ y : Str, y ≠ "__name__" → mb y = bootBuiltins y) (nl : s₁.heap.NoLimit) (gs : s₁.gens = #[])
    (ha : s₁.heap.get? a = some { cls := .type "list", data := .seq vs.toArray }) (hi : IntsAre vs ns) (hl : ns.length ≤ 63) (room : Room k callerA)
    (F : ∀ base : Heap, K.In base → base.Ns mainGlobals mg → FnG P w K mg base k fa fd [x] (spL K)) (bd : ∀ (s : Shared) (u : Value), BindsTo s fd ⟨[u], []⟩ [(x, u)]) :
    codeAny (model P w) callerA (.call (.ref fa) ⟨[.ref a], []⟩) (fun r s' => r = .ok (.ret (.bool true)) ∧ OldK s₁.heap s'.heap ∧ s'.os = s₁.os ∧ AllBare s'.gens) s₁ := by
  have rv := vals_ints hi
  have lz : ns.length ≤ sizeLine := Nat.le_trans hl (by decide)
  have main : ∀ H : Hp, (∀ b, H b = none ∨ (b = a ∧ ∃ o ys, H b = some (.frz o (.lst ys)))) → SqL K H a (ns.map V.int) → HOk P w H s₁.heap → (H a ≠ none → K.lookup a = none) →
      codeAny (model P w) callerA (.call (.ref fa) ⟨[.ref a], []⟩) (fun r s' => r = .ok (.ret (.bool true)) ∧ OldK s₁.heap s'.heap ∧ s'.os = s₁.os ∧ AllBare s'.gens) s₁ := by
    intro H hO hS hok hK
    have nodict : ∀ {b : Addr} {o : Obj} {es : Array DictEntry} {ep : Nat}, s₁.heap.get? b = some o → o.data = .dict es ep → H b = none := fun {b o es ep} e d => by
      rcases hO b with z | ⟨rfl, _⟩
      · exact z
      · rw [ha] at e
        cases e
        cases d
    have nsH : ∀ {b : Addr} {m : Str → Option Value}, s₁.heap.Ns b m → (hidT s₁.heap H).Ns b m := fun {b m} ⟨o, es, ep, e, d, r⟩ => ⟨o, es, ep, hidT_get e (nodict e d), d, r⟩
    have kinH : K.In (hidT s₁.heap H) := fun b o e => hidT_get (KX b o e) (by
      rcases hO b with z | ⟨rfl, _, _, z⟩
      · exact z
      · rw [hK (by rw [z]; simp)] at e
        cases e)
    obtain ⟨mc, c1, c2⟩ := nl
    have e0 : Env0 P w K mg (hidT s₁.heap H) callerA [] s₁ H :=
      ⟨rfl, ⟨kinH, nsH hm, ⟨mb, nsH hb, hbb⟩, mc, nsH c1, c2⟩, fun b o e => of_hidT e, Nat.le_of_eq (hidT_size _ _), trivial, fun b hb => (by cases hb), hok, .of_eq gs⟩
    refine codeAny_mono ((F _ kinH (nsH hm)).run callerA [] s₁ H ⟨[.ref a], []⟩ [.ref a] [.ref a] (fun v _ => v = .bl true) rfl room e0 (bd s₁ (.ref a)) (.cons rfl .nil) ⟨a, ns, rfl, hS, hl, fun _ => rfl⟩) fun r s' h => ?_
    obtain ⟨u, rfl, v, H', os, bare, un, hok', r', q⟩ := h
    obtain rfl : v = .bl true := q
    obtain rfl : u = Value.bool true := r'
    refine ⟨rfl, OldK.of_keep fun b o e => ?_, os, bare⟩
    rcases hO b with z | ⟨_, ob, ys, z⟩
    · exact un.keep b o e z (fun y => by cases y) (fun y => by cases y)
    · have z2 := un.frzs b ob _ z
      obtain ⟨e1, _⟩ := hok b _ z
      obtain ⟨e2, _⟩ := hok' b _ z2
      rw [e] at e1
      cases e1
      exact e2
  cases hk : K.lookup a with
  | some o =>
    have e := KX a o hk
    rw [ha] at e
    cases e
    refine main (fun _ => none) (fun _ => .inl rfl) (.inr ⟨_, vs.toArray, _, hk, rfl, rfl, rfl, ?_, by simpa using rv⟩) (fun b u z => nomatch z) fun z => absurd rfl z
    rw [List.size_toArray, hi.length]
    exact lz
  | none =>
    let o0 : Obj := { cls := .type "list", data := .seq vs.toArray }
    let H0 : Hp := fun b => if b = a then some (.frz o0 (.lst (ns.map V.int))) else none
    have h0 : H0 a = some (.frz o0 (.lst (ns.map V.int))) := if_pos rfl
    have h1 : ∀ b, b ≠ a → H0 b = none := fun b n => if_neg n
    refine main H0 (fun b => ?_) (.inl (.inr ⟨o0, h0⟩)) (fun b u z => ?_) fun _ => hk
    · by_cases n : b = a
      · subst n; exact .inr ⟨rfl, _, _, h0⟩
      · exact .inl (h1 b n)
    · by_cases n : b = a
      · subst n
        rw [h0] at z
        cases z
        exact ⟨ha, by rw [List.length_map]; exact lz, vs, _, rv, ha⟩
      · rw [h1 b n] at z
        cases z
theorem walkG {l : PySem.W.OpenLaw} {k : Nat} {q : Program} {loose : List Str} {XP : (Str → Option Value) → Heap → Prop} {YP : World → Heap → Prop} {d : DefRec} {K : Params → PySem.W.Frag} {x : Str}
    (hn : l.most = some 63) (hdf : d.params.defaults = []) (hr : Room k callerA) (hY : ∀ (w : World) (h : Heap), YP w h → (K w.params).In h)
    (F : ∀ (w : World) (mg : Str → Option Value) (fa : Addr) (h : Heap), (K w.params).In h → h.Ns mainGlobals mg → mg d.name = some (.ref fa) →
      ∃ fd : FuncData, (∀ (s : Shared) (u : Value), BindsTo s fd ⟨[u], []⟩ [(x, u)]) ∧ ∀ base : Heap, (K w.params).In base → base.Ns mainGlobals mg → FnG l.prog w (K w.params) mg base k fa fd [x] (spL (K w.params))) :
    PySem.W.WalkO q loose XP YP l.row.toRowW d [] (fun f vs => PySem.call f vs) := by
  refine Att.attach_call hn hdf fun w s0 s1 mg mb fa o pm cd doc a vs ns Gd Yh ho hd hcd hmg hobj hints hlen hgs => ?_
  have kx := hY w _ Yh
  obtain ⟨fd, bd, hF⟩ := F w mg fa _ kx Gd.T.g hmg
  exact lawG_call kx Gd.T.g Gd.T.b Gd.T.builtins Gd.T.nolimit hgs hobj hints hlen hr hF bd
end FD

set_option Elab.async false
set_option linter.all false
set_option maxRecDepth 100000
set_option maxHeartbeats 2000000
namespace FD
open PySem PySem.Spec PyProof.Rows L2

section
variable {K : PySem.W.Frag} {env : En} {ta tb tc te : TE} {t u : TS} {P : En → PyData → Prop} {O : Outs}
/-! ### tests of several parts -/
theorem eb_and {tt uu : TT} {P : En → Bool → Prop} (h : EvB K tt env fun e1 c => (c = true → EvB K uu e1 P) ∧ (c = false → P e1 false)) : EvB K (tAnd tt uu) env P := fun B σ G H Q I q =>
  h B σ G H _ I fun c G1 H1 e1 p1 x1 I1 => by
    cases c with
    | true => exact iteT (p1.1 rfl B σ G1 H1 Q I1 fun b G2 H2 e2 p2 x2 I2 => q b G2 H2 e2 p2 (x1.trans x2) I2)
    | false => exact iteF (q false G1 H1 e1 (p1.2 rfl) x1 I1)
theorem eb_or {tt uu : TT} {P : En → Bool → Prop} (h : EvB K tt env fun e1 c => (c = false → EvB K uu e1 P) ∧ (c = true → P e1 true)) : EvB K (tOr tt uu) env P := fun B σ G H Q I q =>
  h B σ G H _ I fun c G1 H1 e1 p1 x1 I1 => by
    cases c with
    | false => exact iteF (p1.1 rfl B σ G1 H1 Q I1 fun b G2 H2 e2 p2 x2 I2 => q b G2 H2 e2 p2 (x1.trans x2) I2)
    | true => exact iteT (q true G1 H1 e1 (p1.2 rfl) x1 I1)
theorem eb_not {tt : TT} {P : En → Bool → Prop} (h : EvB K tt env fun e1 c => P e1 (!c)) : EvB K (tNot tt) env P := fun B σ G H Q I q =>
  h B σ G H _ I fun c G1 H1 e1 p1 x1 I1 => q (!c) G1 H1 e1 p1 x1 I1
theorem eb_yes {P : En → Bool → Prop} (h : P env true) : EvB K tYes env P := fun B σ G H Q I q => q true G H env h (Ex.refl G) I
/-! ### the script -/
theorem ev_slen {i : Nat} {p : Addr} {ns : List Int} (hi : env[i]? = some (some (.script p ns))) (h : P env (.int ns.length)) : EvE K (tCB (rLen K) (tCons (tVar i) tNil)) env P := fun B σ G H Q I q => by
  obtain ⟨v, h1, rfl, g⟩ := I.sl i _ hi
  have g' : SqL K H p (ns.map V.int) := SqL.ex g I.exH
  refine ⟨_, h1, _, _, rfl, .inl ⟨_, g', rfl⟩, ?_⟩
  rw [List.length_map]
  exact q _ G H env _ h (Ex.refl G) I (.int _)
theorem atI_map {ns : List Int} {j : Int} {z : Int} (h : L2.atI ns j = some z) : L2.atI (ns.map V.int) j = some (.int z) := by
  unfold L2.atI at h ⊢
  rw [List.length_map]
  cases e : ixN ns.length j with
  | none => rw [e] at h; cases h
  | some m =>
    rw [e] at h
    have h' : ns[m]? = some z := h
    show (ns.map V.int)[m]? = _
    rw [List.getElem?_map, h']
    rfl
theorem ev_sat {i : Nat} {p : Addr} {ns : List Int} {tb : TE} (hi : env[i]? = some (some (.script p ns))) (h : EvE K tb env fun e1 d => ∃ j z, d = .int j ∧ L2.atI ns j = some z ∧ P e1 (.int z)) : EvE K (tOp (rIx K) (tVar i) tb) env P := fun B σ G H Q I q => by
  obtain ⟨v, h1, rfl, g⟩ := I.sl i _ hi
  refine ⟨_, h1, ?_⟩
  refine h B σ G H _ I fun y G1 H1 e1 d1 p1 x1 I1 r1 => ?_
  obtain ⟨j, z, rfl, hz, hp⟩ := p1
  cases r1
  exact .inl ⟨_, _, j, _, rfl, rfl, SqL.ex g (x1.trans I1.exH), atI_map hz, q _ G1 H1 e1 _ hp x1 I1 (.int _)⟩
/-- sum(script[:j]) -/
theorem ev_ssum {i : Nat} {p : Addr} {ns : List Int} {tb : TE} (hi : env[i]? = some (some (.script p ns))) (h : EvE K tb env fun e1 d => (∃ j, d = .int j) ∧ ∀ z, P e1 (.int z)) :
    EvE K (tCB (rSum K) (tCons (tSl (rSlice K) (tVar i) tNoPart (tPart tb)) tNil)) env P := fun B σ G H Q I q => by
  obtain ⟨v, h1, rfl, g⟩ := I.sl i _ hi
  refine ⟨_, h1, ?_⟩
  refine h B σ G H _ I fun y G1 H1 e1 d1 p1 x1 I1 r1 => ?_
  obtain ⟨⟨j, rfl⟩, hp⟩ := p1
  cases r1
  refine ⟨j, rfl, .inl ⟨_, _, rfl, SqL.ex g (x1.trans I1.exH), fun a na => ?_⟩⟩
  have n := I1.exH.fresh na
  have e : cutV (ns.map V.int) none (some j) = ((ns.drop (HT.sIx ns.length 0 none)).take (HT.sIx ns.length ns.length (some j) - HT.sIx ns.length 0 none)).map V.int := by
    unfold cutV
    rw [List.length_map, List.map_take, List.map_drop]
  rw [e]
  exact ⟨a, _, rfl, SqL.of upd_same, q _ _ _ e1 _ (hp _) (x1.trans (Ex.new n)) (I1.new na) (.int _)⟩
/-! ### dicts with text keys -/
def lkD (x : Str) : List (PyData × PyData) → Option PyData
  | [] => none
  | (k, d) :: r => match k with
    | .str y => if y = x then some d else lkD x r
    | _ => lkD x r
theorem DdKv.lk {G : Hp} {x : Str} : ∀ {kvs : List (Key × V)} {ds : List (PyData × PyData)}, DdKv G kvs ds → (valV kvs (.inr x) = none ∧ lkD x ds = none) ∨ ∃ v d, valV kvs (.inr x) = some v ∧ lkD x ds = some d ∧ Dd G v d
  | _, _, .nil => .inl ⟨rfl, rfl⟩
  | _, _, .cons (k := k) (v := v) (vs := vs) (d := d) (ds := ds) r t => by
    have ih := DdKv.lk (x := x) t
    cases k with
    | inl i =>
      have e : valV ((Sum.inl i, v) :: vs) (.inr x) = valV vs (.inr x) := valV_neg (fun z => nomatch z)
      rw [e]
      exact ih
    | inr y =>
      by_cases z : y = x
      · subst z
        refine .inr ⟨v, d, valV_pos rfl, ?_, r⟩
        show (if y = y then some d else _) = _
        rw [if_pos rfl]
      · have e : valV ((Sum.inr y, v) :: vs) (.inr x) = valV vs (.inr x) := valV_neg (fun q => z (Sum.inr.inj q))
        have e2 : lkD x ((kD (.inr y), d) :: ds) = lkD x ds := by
          show (if y = x then some d else _) = _
          rw [if_neg z]
        rw [e, e2]
        exact ih
/-- the pairs behind a store: in its place, or at the end -/
def isK (y : Str) : PyData → Bool
  | .str z => decide (z = y)
  | _ => false
def putD (y : Str) (d : PyData) (ds : List (PyData × PyData)) : List (PyData × PyData) :=
  if (ds.any fun p => isK y p.1) = true then ds.map (fun p => if isK y p.1 = true then (p.1, d) else p) else ds ++ [(.str y, d)]
theorem isK_kD (y : Str) (k : Key) : isK y (kD k) = decide (k = .inr y) := by
  cases k with
  | inl i => exact (decide_eq_false (fun q => nomatch q)).symm
  | inr z =>
    show decide (z = y) = _
    by_cases q : z = y
    · subst q; simp
    · rw [decide_eq_false q, decide_eq_false (fun e => q (Sum.inr.inj e))]
theorem DdKv.putD {G : Hp} {y : Str} {v : V} {d : PyData} (r : Dd G v d) {kvs : List (Key × V)} {ds : List (PyData × PyData)} (h : DdKv G kvs ds) : DdKv G (putK kvs (.inr y) v) (putD y d ds) := by
  have hm : ∀ {kvs : List (Key × V)} {ds : List (PyData × PyData)}, DdKv G kvs ds → DdKv G (kvs.map fun kv => if kv.1 = Sum.inr y then (kv.1, v) else kv) (ds.map (fun p => if isK y p.1 = true then (p.1, d) else p)) := by
    intro kvs
    induction kvs with
    | nil => intro ds h; cases h; exact .nil
    | cons q r' ih =>
      intro ds h
      cases h with
      | cons h1 h2 =>
        rename_i k' v' d' ds'
        rw [List.map_cons, List.map_cons]
        show DdKv G ((if k' = Sum.inr y then (k', v) else (k', v')) :: _) ((if isK y (kD k') = true then (kD k', d) else (kD k', d')) :: _)
        rw [isK_kD]
        by_cases z : k' = Sum.inr y
        · rw [if_pos z, if_pos (decide_eq_true z)]; exact .cons r (ih h2)
        · rw [if_neg z, if_neg (by rw [decide_eq_false z]; exact Bool.false_ne_true)]; exact .cons h1 (ih h2)
  have ha : ∀ {kvs : List (Key × V)} {ds : List (PyData × PyData)}, DdKv G kvs ds → DdKv G (kvs ++ [(.inr y, v)]) (ds ++ [(kD (.inr y), d)]) := by
    intro kvs
    induction kvs with
    | nil => intro ds h; cases h; exact .cons r .nil
    | cons q r' ih =>
      intro ds h
      cases h with
      | cons h1 h2 => exact .cons h1 (ih h2)
  have hy : ∀ {kvs : List (Key × V)} {ds : List (PyData × PyData)}, DdKv G kvs ds → (ds.any fun p => isK y p.1) = kvs.any fun kv => decide (kv.1 = Sum.inr y) := by
    intro kvs
    induction kvs with
    | nil => intro ds h; cases h; rfl
    | cons q r' ih =>
      intro ds h
      cases h with
      | cons h1 h2 => rw [List.any_cons, List.any_cons, ih h2, isK_kD]
  unfold putK FD.putD
  rw [hy h]
  by_cases z : (kvs.any fun kv => decide (kv.1 = Sum.inr y)) = true
  · rw [if_pos z, if_pos z]; exact hm h
  · rw [if_neg z, if_neg z]; exact ha h
theorem DdKv.length {G : Hp} : ∀ {kvs : List (Key × V)} {ds : List (PyData × PyData)}, DdKv G kvs ds → kvs.length = ds.length
  | _, _, .nil => rfl
  | _, _, .cons _ t => by rw [List.length_cons, List.length_cons, DdKv.length t]
theorem putD_length (y : Str) (d : PyData) (ds : List (PyData × PyData)) : (putD y d ds).length ≤ ds.length + 1 := by
  unfold putD
  split
  · simp
  · simp
theorem lkD_app (x y : Str) (d : PyData) : ∀ ds : List (PyData × PyData), (ds.any fun p => isK y p.1) = false → lkD x (ds ++ [(.str y, d)]) = if x = y then some d else lkD x ds
  | [], _ => by
    show (if y = x then some d else none) = _
    by_cases z : x = y
    · rw [if_pos z, if_pos z.symm]
    · rw [if_neg z, if_neg (fun e => z e.symm)]; rfl
  | (k, f) :: r, h => by
    rw [List.any_cons, Bool.or_eq_false_iff] at h
    have ih := lkD_app x y d r h.2
    cases k with
    | str z =>
      have h1 : decide (z = y) = false := h.1
      have zy : z ≠ y := of_decide_eq_false h1
      show (if z = x then some f else lkD x (r ++ [(.str y, d)])) = if x = y then some d else (if z = x then some f else lkD x r)
      rw [ih]
      by_cases q : z = x
      · subst q; rw [if_pos rfl, if_neg zy, if_pos rfl]
      · rw [if_neg q, if_neg q]
    | _ => exact ih
theorem lkD_map (x y : Str) (d : PyData) : ∀ ds : List (PyData × PyData), (ds.any fun p => isK y p.1) = true → lkD x (ds.map (fun p => if isK y p.1 = true then (p.1, d) else p)) = if x = y then some d else lkD x ds
  | [], h => by cases h
  | (k, f) :: r, h => by
    by_cases hr : (r.any fun p => isK y p.1) = true
    · have ih := lkD_map x y d r hr
      rw [List.map_cons]
      cases k with
      | str z =>
        show lkD x ((if decide (z = y) = true then (.str z, d) else (.str z, f)) :: _) = if x = y then some d else (if z = x then some f else lkD x r)
        by_cases q : z = y
        · subst q
          rw [if_pos (decide_eq_true rfl)]
          show (if z = x then some d else lkD x _) = _
          rw [ih]
          by_cases e : z = x
          · subst e; rw [if_pos rfl, if_pos rfl]
          · have e' : ¬ x = z := fun a => e a.symm
            simp only [if_neg e, if_neg e']
        · rw [if_neg (by rw [decide_eq_false q]; exact Bool.false_ne_true)]
          show (if z = x then some f else lkD x _) = _
          rw [ih]
          by_cases e : z = x
          · subst e; rw [if_pos rfl, if_neg q, if_pos rfl]
          · rw [if_neg e, if_neg e]
      | _ => exact ih
    · have hr' : (r.any fun p => isK y p.1) = false := by simpa using hr
      have hid : (r.map (fun p => if isK y p.1 = true then (p.1, d) else p)) = r := by
        rw [List.map_congr_left (g := id) fun p hp => ?_, List.map_id]
        have := List.any_eq_false.mp hr' p hp
        rw [if_neg this]; rfl
      rw [List.any_cons, hr', Bool.or_false] at h
      rw [List.map_cons, hid]
      cases k with
      | str z =>
        have zy : z = y := of_decide_eq_true h
        subst zy
        show lkD x ((if decide (z = z) = true then (.str z, d) else (.str z, f)) :: r) = if x = z then some d else (if z = x then some f else lkD x r)
        rw [if_pos (decide_eq_true rfl)]
        show (if z = x then some d else lkD x r) = _
        by_cases e : z = x
        · subst e; rw [if_pos rfl, if_pos rfl]
        · rw [if_neg e, if_neg (fun a => e a.symm), if_neg e]
      | _ => cases h
theorem lkD_put (x y : Str) (d : PyData) (ds : List (PyData × PyData)) : lkD x (putD y d ds) = if x = y then some d else lkD x ds := by
  unfold putD
  by_cases z : (ds.any fun p => isK y p.1) = true
  · rw [if_pos z]; exact lkD_map x y d ds z
  · rw [if_neg z]; exact lkD_app x y d ds (by simpa using z)
/-- not in a dict; an item of it -/
theorem ev_dni (h : EvE K ta env fun e1 d => EvE K tb e1 fun e2 dd => ∃ x ds, d = .str x ∧ dd = .dict ds ∧ P e2 (.bool (!(lkD x ds).isSome))) : EvE K (tDNotIn ta tb) env P := fun B σ G H Q I q =>
  h B σ G H _ I fun y G1 H1 e1 d1 p1 x1 I1 r1 => p1 B σ G1 H1 _ I1 fun z G2 H2 e2 d2 p2 x2 I2 r2 => by
    obtain ⟨x, ds, rfl, rfl, hp⟩ := p2
    cases r1
    cases r2 with
    | dct h1 h2 =>
      refine ⟨_, _, rfl, DGet.k (k := .inr x) (I2.exH _ _ h1), ?_⟩
      rename_i a0 kvs0
      have e : (valV kvs0 (Sum.inr x)).isSome = (lkD x ds).isSome := by
        rcases h2.lk (x := x) with ⟨a, b⟩ | ⟨v, d, a, b, _⟩
        · rw [a, b]; rfl
        · rw [a, b]; rfl
      rw [e]
      exact q _ G2 H2 e2 _ hp (x1.trans x2) I2 (.bl _)
theorem ev_dget (h : EvE K ta env fun e1 dd => EvE K tb e1 fun e2 d => ∃ x ds f, d = .str x ∧ dd = .dict ds ∧ lkD x ds = some f ∧ P e2 f) : EvE K (tDGet ta tb) env P := fun B σ G H Q I q =>
  h B σ G H _ I fun y G1 H1 e1 d1 p1 x1 I1 r1 => p1 B σ G1 H1 _ I1 fun z G2 H2 e2 d2 p2 x2 I2 r2 => by
    obtain ⟨x, ds, f, rfl, rfl, hf, hp⟩ := p2
    cases r2
    have r1' := r1.ex x2
    cases r1' with
    | dct h1 h2 =>
      rcases h2.lk (x := x) with ⟨a, b⟩ | ⟨v, d, a, b, rv⟩
      · rw [hf] at b; cases b
      · rw [hf] at b; cases b
        refine ⟨_, v, rfl, ?_, q v G2 H2 e2 _ hp (x1.trans x2) I2 rv⟩
        rw [← a]
        exact DGet.k (k := .inr x) (I2.exH _ _ h1)
/-- a dict of one's own -/
theorem es_odc {i : Nat} {x : Str} {j : Int} (h : ∀ p : Addr, O.nx (env.set i (some (.odc p [(.str x, .int j)])))) : EvS K (tAsg (tDisp [(tC (.str x), tC (.int j))]) (gName i)) env O := fun B σ G H D I a b c d f => by
  intro p np
  show (upd H p (.dK [])) p = _ ∧ _
  refine ⟨upd_same, [(.inr x, .int j)], rfl, Nat.le_of_ble_eq_true rfl, ?_⟩
  rw [upd_upd]
  have n := I.exH.fresh np
  have I2 : EnvOk K B G (upd H p (.dK (mergeK [] [(.inr x, .int j)]))) σ env := by
    refine ⟨I.exH.trans (Ex.new np), I.exG, fun q u hq hm => Ex.new np _ _ (I.keep q u hq hm), I.nog, fun q u hq => ?_, I.mus, I.len, fun j s e => ?_, I.mine, I.inj⟩
    · obtain ⟨w, hw⟩ := I.there q u hq
      exact ⟨w, Ex.new np _ _ hw⟩
    · obtain ⟨v, h1, h2⟩ := I.sl j s e
      exact ⟨v, h1, h2.ex (Ex.refl _) (fun q hq => (h2.has hq).2.1) fun q u hq hu => Ex.new np _ _ hu⟩
  have bp : B.H p = none := by
    cases z : B.H p with
    | none => rfl
    | some o => obtain ⟨u, hu⟩ := I.there p o z; rw [np] at hu; cases hu
  refine a _ G _ _ (h p) (Ex.refl G) (I2.setO (s := .odc p _) ⟨rfl, n, _, upd_same, .cons (k := .inr x) (.int j) .nil⟩ rfl bp fun j t e z => ?_)
  obtain ⟨v, _, h2⟩ := I.sl j t e
  obtain ⟨_, _, o, ho⟩ := h2.has z
  rw [np] at ho; cases ho
theorem es_dput {i : Nat} {p : Addr} {ds0 : List (PyData × PyData)} {tv ty : TE} (h0 : env[i]? = some (some (.odc p ds0)))
    (h : EvE K tv env fun e1 d => e1 = env ∧ EvE K ty env fun e2 k => e2 = env ∧ ∃ y, k = .str y ∧ ds0.length < 100000 ∧ O.nx (env.set i (some (.odc p (putD y d ds0))))) : EvS K (sDPut (tVar i) ty tv) env O := fun B σ G H D I a b c d f => by
  refine h B σ G H _ I fun v G1 H1 e1 d1 p1 x1 I1 r1 => ?_
  obtain ⟨rfl, p1⟩ := p1
  obtain ⟨v0, hv0, rfl, _⟩ := I1.sl i _ h0
  refine ⟨_, hv0, ?_⟩
  refine p1 B σ G1 H1 _ I1 fun yv G2 H2 e2 k p2 x2 I2 r2 => ?_
  obtain ⟨rfl, y, rfl, hl, hn⟩ := p2
  cases r2
  obtain ⟨v1, hv1, rfl, g1, kvs, hk, rk⟩ := I2.sl i _ h0
  refine ⟨p, _, rfl, DPut.k (k := .inr y) hk (by rw [rk.length]; exact Nat.lt_of_lt_of_le hl (by decide)), ?_⟩
  exact a σ G2 _ _ hn (x1.trans x2) (I2.put h0 rfl rfl rfl ⟨rfl, g1, _, upd_same, rk.putD (r1.ex x2)⟩)
/-- a dict of one's own, read: from now on it stays -/
theorem ev_odc {i : Nat} {p : Addr} {ds : List (PyData × PyData)} (h : env[i]? = some (some (.odc p ds))) (q : P (env.set i (some (.dat (.dict ds)))) (.dict ds)) : EvE K (tVar i) env P := fun B σ G H Q I k => by
  obtain ⟨v, hv, rfl, g, xs, hx, r⟩ := I.sl i _ h
  have bp : B.H p = none := by
    rcases I.mine i _ p h rfl with m | m
    · exact m
    · cases m.2
  have I2 := (I.forget i).freeze hx g (fun j s e a => by
    by_cases z : i = j
    · subst z
      by_cases q : i < env.length
      · rw [List.getElem?_set_self q] at e; cases e
      · rw [List.getElem?_eq_none (by omega)] at h; cases h
    · rw [List.getElem?_set_ne z] at e; exact z (I.inj _ _ _ _ _ h e rfl a)) bp
  have rd : Dd (upd G p (.dK xs)) (.ref p) (.dict ds) := .dct upd_same (r.ex (Ex.new g))
  have I3 := I2.tell hv rd
  rw [List.set_set] at I3
  exact ⟨_, hv, k _ _ H _ _ q (Ex.new g) I3 rd⟩
end
end FD

set_option Elab.async false
set_option linter.all false
set_option maxRecDepth 100000
set_option maxHeartbeats 2000000
namespace FD
open PySem PySem.Spec PyProof.Rows L2
theorem bInt : bootBuiltins "int" = some (.type "int") := by decide +kernel
theorem bBool : bootBuiltins "bool" = some (.type "bool") := by decide +kernel
theorem bStr : bootBuiltins "str" = some (.type "str") := by decide +kernel
theorem bTuple : bootBuiltins "tuple" = some (.type "tuple") := by decide +kernel
theorem bList : bootBuiltins "list" = some (.type "list") := by decide +kernel
theorem bLen : bootBuiltins "len" = some (.builtin "len") := by decide +kernel
theorem bAll : bootBuiltins "all" = some (.builtin "all") := by decide +kernel
theorem bRepr : bootBuiltins "repr" = some (.builtin "repr") := by decide +kernel
theorem bMax : bootBuiltins "max" = some (.builtin "max") := by decide +kernel
theorem bMin : bootBuiltins "min" = some (.builtin "min") := by decide +kernel
theorem bSum : bootBuiltins "sum" = some (.builtin "sum") := by decide +kernel
/-- the built-ins' names are the built-ins' -/
structure Bi (mg : Str → Option Value) : Prop where
  len : mg "len" = none
  isi : mg "isinstance" = none
  int : mg "int" = none
  bool : mg "bool" = none
  str : mg "str" = none
  tuple : mg "tuple" = none
  list : mg "list" = none
  all : mg "all" = none
  repr : mg "repr" = none
  sum : mg "sum" = none
  min : mg "min" = none
  max : mg "max" = none
  range : mg "range" = none
section
variable {prog : Program} {w : World} {A : Around} {E : Value → Shared → Prop} {s : Shared}
theorem back_places (n : Nat) : Builtin.Slice.slicePlaces ((n : Int) - 1) (-1) (-1) = n := by
  unfold Builtin.Slice.slicePlaces
  rw [if_neg (by decide)]
  by_cases z : n = 0
  · subst z; decide
  · rw [if_pos (by omega)]
    have : ((n : Int) - 1 - -1 - 1) / (- -1) = (n : Int) - 1 := by
      rw [show ((n : Int) - 1 - -1 - 1) = (n : Int) - 1 by omega, show (- -1 : Int) = 1 by decide, Int.ediv_one]
    rw [this]
    omega
theorem back_pick (xs : Array Value) : ((List.range xs.size).filterMap fun (k : Nat) => xs[((xs.size : Int) - 1 + (k : Int) * (-1)).toNat]?).toArray = xs.toList.reverse.toArray := by
  have go := HT.pick_gen xs.toList.reverse.toArray 0 xs.size
  rw [show (xs.toList.reverse.toArray.toList.drop 0).take xs.size = xs.toList.reverse from by rw [List.drop_zero]; exact List.take_of_length_le (by rw [List.length_reverse, Array.length_toList]; exact Nat.le_refl _)] at go
  rw [← go]
  congr 1
  have same : ∀ (l : List Nat) (f g : Nat → Option Value), (∀ k, k ∈ l → f k = g k) → l.filterMap f = l.filterMap g := by
    intro l f g
    induction l with
    | nil => intro _; rfl
    | cons k l ih =>
      intro h
      rw [List.filterMap_cons, List.filterMap_cons, h k List.mem_cons_self, ih fun j hj => h j (List.mem_cons_of_mem _ hj)]
  refine same _ _ _ fun k hk => ?_
  have hk := List.mem_range.mp hk
  rw [show ((((0 : Nat) : Int) + (k : Int) * 1).toNat) = k by omega, show ((xs.size : Int) - 1 + (k : Int) * (-1)).toNat = xs.size - 1 - k by omega]
  have e1 : xs[xs.size - 1 - k]? = xs.toList[xs.size - 1 - k]? := by simp
  have e2 : xs.toList.reverse.toArray[k]? = xs.toList.reverse[k]? := by simp
  rw [e1, e2, List.getElem?_reverse (by rw [Array.length_toList]; exact hk), Array.length_toList]
theorem back_run {sl : Addr} {vl vu vk : Value} {n : Nat} {Q : Int × Int × Nat → Shared → Prop} (at_ : s.heap.IsSliceOf sl vl vu vk) (a : IsPart vl none) (b : IsPart vu none) (c : IsPart vk (some (-1)))
    (h : Q ((n : Int) - 1, -1, n) s) : wpAny (model prog w) A (Builtin.Slice.sliceApplied (.ref sl) (pure (n : Int))) Q E s := by
  cases a; cases b
  cases c with
  | int i u =>
  obtain ⟨ob, get, cl, dat⟩ := at_
  unfold Builtin.Slice.sliceApplied Builtin.Slice.sliceFields
  refine wpAny_bind (wpAny_bind (wpAny_field get dat (x := .none) rfl (wpAny_bind (wpAny_field get dat (x := .none) rfl (wpAny_bind (wpAny_field get dat (x := .int (-1) u) rfl (wpAny_pure ?_)))))))
  refine wpAny_bind (slicePart_int ?_)
  show wpAny _ _ (ite (((-1 : Int) == 0) = true) _ _) _ _ s
  rw [if_neg (by decide)]
  refine wpAny_bind (slicePart_none ?_)
  refine wpAny_bind (slicePart_none ?_)
  refine wpAny_bind (wpAny_pure ?_)
  show wpAny _ _ (pure ((n : Int) - 1, (-1 : Int), Builtin.Slice.slicePlaces ((n : Int) - 1) (-1) (-1))) _ _ s
  rw [back_places]
  exact wpAny_pure h
theorem back_get {t sl : Addr} {xs : Array Value} {vl vu vk : Value} {Q : Value → Shared → Prop} (tp : IsTup s.heap t xs) (at_ : s.heap.IsSliceOf sl vl vu vk) (a : IsPart vl none) (b : IsPart vu none) (c : IsPart vk (some (-1)))
    (h : Q (.ref s.heap.objs.size) { s with heap := s.heap.push { cls := .type "tuple", data := .seq xs.toList.reverse.toArray } }) (small : xs.size ≤ sizeLine) :
    wpAny (model prog w) A (getItem (.ref t) (.ref sl)) Q E s := by
  have fits : sizeOk (.seq xs.toList.reverse.toArray) := by
    show xs.toList.reverse.toArray.size ≤ sizeLine
    rw [List.size_toArray, List.length_reverse, Array.length_toList]
    exact small
  have isSl : s.TypeIs (.ref sl) "slice" := by
    obtain ⟨ob, get, cl, _⟩ := at_
    exact ⟨ob, get, cl⟩
  unfold getItem
  try with_reducible refine wpAny_holding ?_
  first | refine wpAny_bind (wpAny_pure ?_) | skip
  refine wpAny_bind (wpAny_sequenceKey tp.typeIs (by decide) ?_)
  refine wpAny_bind (wpAny_callSpecial?_slot (name := Str.ofString "__getitem__") tp.typeIs slot_tuple_getitem
    (wpAny_call_entry slot_tuple_getitem tp.typeIs entry_tuple_getitem ?_ (args_tuple_getitem _ _)))
  show wpAny _ _ (bind (Builtin.Tuple.tupleItemsOf (.ref t)) _) _ _ s
  refine wpAny_bind (tupleItemsOf_ tp ?_)
  refine wpAny_bind (wpAny_typeOf isSl ?_)
  rw [if_pos (by decide)]
  refine wpAny_bind (back_run at_ a b c ?_)
  have nw : ¬ ((((xs.size : Int) - 1) == 0 && (-1 : Int) == 1 && xs.size == xs.size) = true) := by
    rw [show ((-1 : Int) == 1) = false by decide, Bool.and_false, Bool.false_and]
    decide
  show wpAny _ _ (ite ((((xs.size : Int) - 1) == 0 && (-1 : Int) == 1 && xs.size == xs.size) = true) _ _) _ _ s
  rw [if_neg nw, back_pick]
  first
    | exact wpAny_bind (m := Builtin.Tuple.tupleExact _) (wpAny_newObj_type (wpAny_pure ⟨_, rfl, wpAny_pure h⟩) fits)
    | exact wpAny_bind (m := Builtin.Tuple.tupleExact _) (wpAny_newObj_type (wpAny_bind (wpAny_pure (wpAny_pure ⟨_, rfl, wpAny_pure h⟩))) fits)
    | exact wpAny_bind (wpAny_bind (m := Builtin.Tuple.tupleExact _) (wpAny_newObj_type (wpAny_pure (wpAny_pure ⟨_, rfl, wpAny_pure h⟩)) fits))
    | exact wpAny_bind (wpAny_bind (m := Builtin.Tuple.tupleExact _) (wpAny_newObj_type (wpAny_pure ⟨_, rfl, wpAny_pure h⟩) fits))
end
section
variable {X : Cx}
/-- isinstance(e, n) -/
theorem pe_isi {n : String} {nm : Str} {e : Expr} {te : TE} {p p2 pos : Pos} (b : Bi X.mg) (hm : X.mg nm = none) (hv : bootBuiltins nm = some (.type n)) (hg : Gl X "isinstance") (hg2 : Gl X nm) (he : PE X e te)
    (h1 : starEach [e, .Name nm p2] X.env = (false, eval e X.env) :: starEach [.Name nm p2] X.env := by rfl) (h2 : starEach [.Name nm p2] X.env = (false, eval (.Name nm p2) X.env) :: starEach [] X.env := by rfl)
    (hpl : (backTo pos (starEach [.Name nm p2] X.env)).any (·.1) = false := by rfl) (hn : nm ≠ "__name__" := by decide) (hd : (nm == ("__debug__" : Str)) = false := by decide) :
    PE X (.Call (.Name "isinstance" p) [e, .Name nm p2] [] pos) (tCB (rIsi X.K) (tCons te (tCons (tC (.ty n)) tNil))) :=
  pe_callB (x := "isinstance") call_isi hg b.isi (by decide +kernel) (pa_cons he (pa_cons (pe_bltn (v := .ty n) hg2 hm hv rfl hn hd) pa_nil h2) h1) (by decide) (by decide) h1 hpl
theorem cl_len : CallR X (.builtin "len") (rLen X.K) := call_len
theorem cl_int : CallR X (.type "int") rInt := call_int1
theorem cl_max (hc : X.calm = true) : CallR X (.builtin "max") rMax2 := call_max2 hc
theorem cl_min (hc : X.calm = true) : CallR X (.builtin "min") rMin2 := call_min2 hc
theorem cl_tuple : CallR X (.type "tuple") (rTuple X.K) := call_tuple_of
theorem op_over : OpR X (binaryOp .FloorDiv) rOver := op_fdivN
theorem op_rest : OpR X (binaryOp .Mod) rMod := op_modN
def rInStr : R2 := fun x y H Q => ∃ i j, x = .str i ∧ y = .str j ∧ Q (.bl (!(Builtin.Str.occurrences j i 0 j.length 1).isEmpty)) H
theorem op_inStr : OpR X (compareOp .In) rInStr := op_in_str
def rLt : R2 := rI0 fun i j => .bl (decide (i < j))
def rGt : R2 := rI0 fun i j => .bl (decide (j < i))
def rGe : R2 := rI0 fun i j => .bl (decide (j ≤ i))
def rMinus : R2 := rI0 fun i j => .int (i - j)
def rPow : R2 := rI CPow fun i j => .int (i ^ j.toNat)
def rNeg : V → Hp → VK → Prop := rU fun i => .int (-i)
theorem op_lt' : OpR X (compareOp .Lt) rLt := op_lt
theorem op_gt' : OpR X (compareOp .Gt) rGt := op_gt
theorem op_ge' : OpR X (compareOp .GtE) rGe := op_ge
theorem op_minus : OpR X (binaryOp .Sub) rMinus := op_sub
theorem op_power : OpR X (binaryOp .Pow) rPow := op_pow
theorem un_minus : UnR X (unaryOp .USub) rNeg := un_neg
theorem pe_v {N : List Str} {i : Nat} {x : Str} {pos : Pos} (hN : N[i]? = some x) (hX : X.N = N) (hv : Vis X.env.scope x) (hd : (x == ("__debug__" : Str)) = false) (hc : (x == ("__classdict__" : Str)) = false) : PE X (.Name x pos) (tVar i) := pe_var (by rw [hX]; exact hN) hv hd hc
theorem pg_v {N : List Str} {i : Nat} {x : Str} {pos : Pos} (hN : N[i]? = some x) (nd : N.Nodup) (hX : X.N = N) (hx : Loc X.env.scope x) (hf : X.fn x = true ∨ X.env.scope.names.lookup x = some .local) : PG X (.Name x pos) (gName i) := pg_name (by rw [hX]; exact nd) (by rw [hX]; exact hN) hx hf
theorem pe_cl {P : Program} {w : World} {K : PySem.W.Frag} {mg : Str → Option Value} {base : Heap} {k m : Nat} {ps : List Str} {sp : Sp} {x : Str} {p pos : Pos} {e : Expr} {es : List Expr} {t : TA} (C : Cal P w K mg base k x ps sp) (h1 : X.prog = P) (h2 : X.w = w) (h3 : X.K = K) (h4 : X.mg = mg) (h5 : X.base = base)
    (hg : X.A.guards = some []) (hr : Room m X.A) (hk : k ≤ m) (hx : Gl X x) (ha : PA X (e :: es) t) (hdb : (x == ("__debug__" : Str)) = false)
    (he : starEach (e :: es) X.env = (false, eval e X.env) :: starEach es X.env) (hpl : (backTo pos (starEach es X.env)).any (·.1) = false) :
    PE X (.Call (.Name x p) (e :: es) [] pos) (tCB (callOf sp) t) := by
  subst h1 h2 h3 h4 h5
  exact pe_cal C hg (hr.mono hk) hx ha hdb he hpl
theorem pe_cl0 {P : Program} {w : World} {K : PySem.W.Frag} {mg : Str → Option Value} {base : Heap} {k m : Nat} {ps : List Str} {sp : Sp} {x : Str} {p pos : Pos} (C : Cal P w K mg base k x ps sp) (h1 : X.prog = P) (h2 : X.w = w) (h3 : X.K = K) (h4 : X.mg = mg) (h5 : X.base = base)
    (hg : X.A.guards = some []) (hr : Room m X.A) (hk : k ≤ m) (hx : Gl X x) (hdb : (x == ("__debug__" : Str)) = false) : PE X (.Call (.Name x p) [] [] pos) (tCB (callOf sp) tNil) := by
  subst h1 h2 h3 h4 h5
  exact pe_cal0 C hg (hr.mono hk) hx hdb
/-- the written part of a def's context -/
theorem cxK {CX : CXT} {P : Program} {w : World} {K : PySem.W.Frag} {mg : Str → Option Value} {base : Heap} {N : List Str} {q : Str} {sc : Scope} {f : Addr} {cd : Value} {A : Around} {outer : List PySem.Env} {s : Shared} {H : Hp} {E : XK} : (cxOf CX P w K mg base N q sc f cd A outer s H E).nox.K = K := rfl
theorem blkK {s : Shared} {H : Hp} {sc : Scope} {e : PySem.Env} {fp : List Addr} : (X.blk s H sc e fp).K = X.K := rfl
/-- [elt for x in iter if ..] -/
theorem pe_lc1 {i : Nat} {x : Str} {px : Pos} {elt iter : Expr} {ifs : List Expr} {scope : Scope} {pos : Pos} {wi : TI} {tt : TT} {te : TE} (hc : X.calm = true) (hN : X.N.Nodup)
    (hg : ∀ (s : Shared) (H : Hp) (C : Addr) (cl : List (Str × Addr)) (fp : List Addr), PG (X.blk s H scope (compEnvC scope cl C X.env) fp) (.Name x px) (gName i))
    (ok : blkC X.N X.env.scope scope [(x, i)] = true) (hi : PI X (.Name x px) iter wi)
    (ht : ∀ (s : Shared) (H : Hp) (C : Addr) (cl : List (Str × Addr)) (fp : List Addr), PTs (X.blk s H scope (compEnvC scope cl C X.env) fp) ifs tt)
    (he : ∀ (s : Shared) (H : Hp) (C : Addr) (cl : List (Str × Addr)) (fp : List Addr), PE (X.blk s H scope (compEnvC scope cl C X.env) fp) elt te)
    (hs : ∀ z, foldedSetIterable iter X.env z = pure z := by intro _; rfl) :
    PE X (.ListComp elt [⟨.Name x px, iter, ifs, 0⟩] scope pos) (tLc wi (gName i) tt te [i]) :=
  pe_lc (own := [(x, i)]) (g := gName i) hc hN hi (blkOk_by ok) hg ht he hs
/-- t[::-1] of a tuple -/
def tRevT (K : PySem.W.Frag) (te : TE) : TE := fun σ H Q => te σ H fun x H1 => ∃ a xs, x = .ref a ∧ SqT K H1 a xs ∧ ∀ p, H1 p = none → Q (.ref p) (upd H1 p (.tup xs.reverse))
theorem pe_revT {e : Expr} {te : TE} {k : Nat} {p1 p2 p3 pos : Pos} (he : PE X e te) : PE X (.Subscript e (.Slice none none (some (.UnaryOp .USub (.Constant (.int 1) k p1) p2)) p3) pos) (tRevT X.K te) := by
  have step : PO X (some (.UnaryOp .USub (.Constant (.int 1) k p1) p2)) (tPart (tUn (rU fun i => .int (-i)) (tC (.int 1)))) := po_some (pe_un un_neg pe_int)
  refine ⟨fun pins s σ H Q I h => Subscript_ (thn (he.run pins s σ H _ I h) fun v s1 ⟨x, H1, I1, r1, q1⟩ => ?_)⟩
  obtain ⟨a, xs, ex, hx, q⟩ := q1
  subst ex
  cases r1
  refine wpAny_Slice (thn (po_none.run pins s1 σ H1 (fun o H2 => o = none ∧ H2 = H1) I1 ⟨rfl, rfl⟩) fun vl s2 ⟨l, H2, I2, pl, el, e2⟩ => thn (po_none.run pins s2 σ H2 (fun o H3 => o = none ∧ H3 = H2) I2 ⟨rfl, rfl⟩) fun vu s3 ⟨u, H3, I3, pu, eu, e3⟩ =>
    thn (step.run pins s3 σ H3 (fun o H4 => o = some (-1) ∧ H4 = H3) I3 ⟨1, rfl, -1, rfl, rfl, rfl⟩) fun vs s4 ⟨o, H4, I4, ps, eo, e4⟩ => ?_)
  subst el e2 eu e3 eo e4
  have I5 : Inv X pins σ H4 { s4 with heap := s4.heap.push { cls := .type "slice", data := .fields #[vl, vu, vs] } } := I4.kept (t' := s4.toks) fun b ob g => Heap.get?_push_of_some _ g
  obtain ⟨its, r, ht, hz⟩ := I5.tuple hx
  have len := r.length
  show wpAny (model X.prog X.w) X.A (subscriptTail e (.Slice none none (some (.UnaryOp .USub (.Constant (.int 1) k p1) p2)) p3) (.ref a) (.ref s4.heap.objs.size)) (EP X pins σ Q) X.xe { s4 with heap := s4.heap.push { cls := .type "slice", data := .fields #[vl, vu, vs] } }
  refine tail_any (ops := [.ref a, .ref s4.heap.objs.size]) ht.typeIs slot_tuple_getitem.lookup ?_ (by with_unfolding_all rfl)
  refine back_get ht (Heap.IsSliceOf.new _ vl vu vs) pl pu ps ?_ (by rw [List.size_toArray, ← len]; omega)
  refine ⟨.ref _, _, I5.laid (t' := s4.toks) (o := .tup xs.reverse) (fun b ob g => Heap.get?_push_of_some _ g) (Nat.le_refl _) ?_, rfl, q _ (I5.hok.fresh (Nat.le_refl _))⟩
  refine ⟨by rw [List.length_reverse]; exact hz, its.reverse, r.reverse, ?_⟩
  exact IsTup.new _ _
end
section
variable {K : PySem.W.Frag} {env : En} {te : TE} {P : En → PyData → Prop}
theorem ev_revT (h : EvE K te env fun e1 d => ∃ ds, d = .tuple ds ∧ P e1 (.tuple ds.reverse)) : EvE K (tRevT K te) env P := fun B σ G H Q I q =>
  h B σ G H _ I fun x G1 H1 e1 d1 p1 x1 I1 r1 => by
    obtain ⟨ds, rfl, hp⟩ := p1
    cases r1 with
    | tup h1 h2 =>
      refine ⟨_, _, rfl, SqT.of (I1.exH _ _ h1), fun p np => ?_⟩
      have n := I1.exH.fresh np
      exact q _ _ _ e1 _ hp (x1.trans (Ex.new n)) (I1.new np) (.tup upd_same (h2.reverse.ex (Ex.new n)))
theorem rd_lt {env : En} {P : PyData → Prop} {i j : Int} (p : P (.bool (decide (i < j)))) : RD K rLt env (.int i) (.int j) P := rd_ltI p
theorem rd_gt {env : En} {P : PyData → Prop} {i j : Int} (p : P (.bool (decide (j < i)))) : RD K rGt env (.int i) (.int j) P := rd_gtI p
theorem rd_ge {env : En} {P : PyData → Prop} {i j : Int} (p : P (.bool (decide (j ≤ i)))) : RD K rGe env (.int i) (.int j) P := rd_geI p
theorem rd_minus {env : En} {P : PyData → Prop} {i j : Int} (p : P (.int (i - j))) : RD K rMinus env (.int i) (.int j) P := rd_int (g := fun i j => i - j) p
theorem rd_pow {env : En} {P : PyData → Prop} {i j : Int} (hc : CPow i j) (p : P (.int (i ^ j.toNat))) : RD K rPow env (.int i) (.int j) P := rd_intC (C := CPow) (g := fun i j => i ^ j.toNat) hc p
theorem rd_inStr {env : En} {P : PyData → Prop} {i j : Str} (p : P (.bool (!(Builtin.Str.occurrences j i 0 j.length 1).isEmpty))) : RD K rInStr env (.str i) (.str j) P := rd_inS p
theorem ev_un (h : EvE K te env fun e1 d => ∃ i : Int, d = .int i ∧ P e1 (.int (-i))) : EvE K (tUn rNeg te) env P := fun B σ G H Q I q =>
  h B σ G H _ I fun x G1 H1 e1 d1 p1 x1 I1 r1 => by
    obtain ⟨i, rfl, hp⟩ := p1
    cases r1
    exact ⟨i, rfl, q _ G1 H1 e1 _ hp x1 I1 (.int _)⟩
end
section
variable {X : Cx} {a b c : Expr} {ta tb tc : TE} {pos : Pos}
theorem pe_plus (ha : PE X a ta) (hb : PE X b tb) : PE X (.BinOp a .Add b pos) (tOp (rPlus X.K) ta tb) := pe_op op_plus ha hb
theorem pe_minus (ha : PE X a ta) (hb : PE X b tb) : PE X (.BinOp a .Sub b pos) (tOp rMinus ta tb) := pe_op op_minus ha hb
theorem pe_times (ha : PE X a ta) (hb : PE X b tb) : PE X (.BinOp a .Mult b pos) (tOp (rTimes X.K) ta tb) := pe_op op_times ha hb
theorem pe_rest (ha : PE X a ta) (hb : PE X b tb) : PE X (.BinOp a .Mod b pos) (tOp rMod ta tb) := pe_op op_rest ha hb
theorem pe_over (ha : PE X a ta) (hb : PE X b tb) : PE X (.BinOp a .FloorDiv b pos) (tOp rOver ta tb) := pe_op op_over ha hb
theorem pe_power (ha : PE X a ta) (hb : PE X b tb) : PE X (.BinOp a .Pow b pos) (tOp rPow ta tb) := pe_op op_power ha hb
theorem pe_neg (ha : PE X a ta) : PE X (.UnaryOp .USub a pos) (tUn rNeg ta) := pe_un un_minus ha
theorem pe_lt (ha : PE X a ta) (hb : PE X b tb) : PE X (.Compare a [.Lt] [b] pos) (tOp rLt ta tb) := pe_cmpR op_lt' ha hb (nomark _)
theorem pt_lt (ha : PE X a ta) (hb : PE X b tb) : PT X (.Compare a [.Lt] [b] pos) (tTest (tOp rLt ta tb)) := pt_cmpR op_lt' ha hb (nomark _)
theorem pe_le (ha : PE X a ta) (hb : PE X b tb) : PE X (.Compare a [.LtE] [b] pos) (tOp rLe ta tb) := pe_cmpR op_leAny ha hb (nomark _)
theorem pt_le (ha : PE X a ta) (hb : PE X b tb) : PT X (.Compare a [.LtE] [b] pos) (tTest (tOp rLe ta tb)) := pt_cmpR op_leAny ha hb (nomark _)
theorem pe_gt (ha : PE X a ta) (hb : PE X b tb) : PE X (.Compare a [.Gt] [b] pos) (tOp rGt ta tb) := pe_cmpR op_gt' ha hb (nomark _)
theorem pt_gt (ha : PE X a ta) (hb : PE X b tb) : PT X (.Compare a [.Gt] [b] pos) (tTest (tOp rGt ta tb)) := pt_cmpR op_gt' ha hb (nomark _)
theorem pe_ge (ha : PE X a ta) (hb : PE X b tb) : PE X (.Compare a [.GtE] [b] pos) (tOp rGe ta tb) := pe_cmpR op_ge' ha hb (nomark _)
theorem pt_ge (ha : PE X a ta) (hb : PE X b tb) : PT X (.Compare a [.GtE] [b] pos) (tTest (tOp rGe ta tb)) := pt_cmpR op_ge' ha hb (nomark _)
theorem pe_is (ha : PE X a ta) (hb : PE X b tb) : PE X (.Compare a [.Is] [b] pos) (tOp rIsAny ta tb) := pe_cmpR op_isAny ha hb (nomark _)
theorem pt_is (ha : PE X a ta) (hb : PE X b tb) : PT X (.Compare a [.Is] [b] pos) (tTest (tOp rIsAny ta tb)) := pt_cmpR op_isAny ha hb (nomark _)
theorem pe_isnt (ha : PE X a ta) (hb : PE X b tb) : PE X (.Compare a [.IsNot] [b] pos) (tOp rIsNotAny ta tb) := pe_cmpR op_isNotAny ha hb (nomark _)
theorem pt_isnt (ha : PE X a ta) (hb : PE X b tb) : PT X (.Compare a [.IsNot] [b] pos) (tTest (tOp rIsNotAny ta tb)) := pt_cmpR op_isNotAny ha hb (nomark _)
theorem pe_eq {k : Nat} (hr : Room k X.A) (ha : PE X a ta) (hb : PE X b tb) : PE X (.Compare a [.Eq] [b] pos) (tOp (rEqD X.K) ta tb) := pe_cmpR (op_eqD (Room.u64 hr)) ha hb (nomark _)
theorem pt_eq {k : Nat} (hr : Room k X.A) (ha : PE X a ta) (hb : PE X b tb) : PT X (.Compare a [.Eq] [b] pos) (tTest (tOp (rEqD X.K) ta tb)) := pt_cmpR (op_eqD (Room.u64 hr)) ha hb (nomark _)
theorem pe_ne {k : Nat} (hr : Room k X.A) (ha : PE X a ta) (hb : PE X b tb) : PE X (.Compare a [.NotEq] [b] pos) (tOp (rNeD X.K) ta tb) := pe_cmpR (op_neD (Room.u64 hr)) ha hb (nomark _)
theorem pt_ne {k : Nat} (hr : Room k X.A) (ha : PE X a ta) (hb : PE X b tb) : PT X (.Compare a [.NotEq] [b] pos) (tTest (tOp (rNeD X.K) ta tb)) := pt_cmpR (op_neD (Room.u64 hr)) ha hb (nomark _)
theorem pe_ins (ha : PE X a ta) (hb : PE X b tb) (hm : behindInMarks .In b = false) : PE X (.Compare a [.In] [b] pos) (tOp rInStr ta tb) := pe_cmpR op_inStr ha hb hm
theorem pe_lele (ha : PE X a ta) (hb : PE X b tb) (hc : PE X c tc) (hm : lastMarks [.LtE, .LtE] [b, c] = false) : PE X (.Compare a [.LtE, .LtE] [b, c] pos) (tChain rLe rLe ta tb tc) := pe_chain op_leAny op_leAny ha hb hc hm
theorem pt_ins (ha : PE X a ta) (hb : PE X b tb) (hm : behindInMarks .In b = false) : PT X (.Compare a [.In] [b] pos) (tTest (tOp rInStr ta tb)) := pt_cmpR op_inStr ha hb hm
theorem pt_lele (ha : PE X a ta) (hb : PE X b tb) (hc : PE X c tc) (hm : lastMarks [.LtE, .LtE] [b, c] = false) : PT X (.Compare a [.LtE, .LtE] [b, c] pos) (tTest (tChain rLe rLe ta tb tc)) := pt_chain op_leAny op_leAny ha hb hc hm
end
section
variable {K : PySem.W.Frag} {env : En} {te : TE} {P : En → PyData → Prop} {i : Nat}
/-- [e for x in xs], e a function of x -/
theorem ev_map {wi : TI} (F : PyData → PyData) (h : EvI K wi env fun e1 xs => xs.length ≤ 100000 ∧ (∀ d, d ∈ xs → EvE K te (e1.set i (some (.dat d))) fun e4 y => e4 = e1.set i (some (.dat d)) ∧ y = F d) ∧ P (e1.set i none) (.list (xs.map F))) :
    EvE K (tLc wi (gName i) tYes te [i]) env P := ev_lc fun B σ G H R I q => h B σ G H R I fun J G1 H1 e1 xs p1 x1 I1 j => by
  obtain ⟨hl, he, hp⟩ := p1
  refine q J G1 H1 e1 xs ⟨fun m e acc => m ≤ xs.length ∧ e = e1.set i none ∧ acc = (xs.take m).map F, ⟨Nat.zero_le _, rfl, rfl⟩, ?_, ?_⟩ x1 I1 j
  · rintro m d e acc hm ⟨h1, rfl, rfl⟩
    have lt : m < xs.length := (List.getElem?_eq_some_iff.mp hm).1
    refine ⟨?_, eb_yes ⟨fun _ => ?_, fun z => by cases z⟩⟩
    · rw [List.length_map, List.length_take]
      exact Nat.lt_of_lt_of_le (Nat.lt_of_le_of_lt (Nat.min_le_left _ _) lt) (Nat.le_trans hl (by decide))
    · rw [List.set_set]
      refine (he d (List.mem_of_getElem? hm)).imp ?_
      rintro e4 y ⟨rfl, rfl⟩
      refine ⟨lt, by rw [List.set_set], ?_⟩
      rw [List.take_add_one, hm, List.map_append]
      rfl
  · rintro e acc ⟨_, rfl, rfl⟩
    rw [List.set_set, List.take_length]
    exact hp
/-- [x for x in xs if t], t a test of x -/
theorem ev_filter {wi : TI} {tt : TT} (p : PyData → Bool) (h : EvI K wi env fun e1 xs => xs.length ≤ 100000 ∧ i < e1.length ∧ (∀ d, d ∈ xs → EvB K tt (e1.set i (some (.dat d))) fun e4 b => e4 = e1.set i (some (.dat d)) ∧ b = p d) ∧ P (e1.set i none) (.list (xs.filter p))) :
    EvE K (tLc wi (gName i) tt (tVar i) [i]) env P := ev_lc fun B σ G H R I q => h B σ G H R I fun J G1 H1 e1 xs p1 x1 I1 j => by
  obtain ⟨hl, hi, he, hp⟩ := p1
  refine q J G1 H1 e1 xs ⟨fun m e acc => m ≤ xs.length ∧ e = e1.set i none ∧ acc = (xs.take m).filter p, ⟨Nat.zero_le _, rfl, rfl⟩, ?_, ?_⟩ x1 I1 j
  · rintro m d e acc hm ⟨h1, rfl, rfl⟩
    have lt : m < xs.length := (List.getElem?_eq_some_iff.mp hm).1
    have tk : xs.take (m + 1) = xs.take m ++ [d] := by rw [List.take_add_one, hm]; rfl
    refine ⟨?_, ?_⟩
    · refine Nat.lt_of_le_of_lt (List.length_filter_le _ _) ?_
      rw [List.length_take]
      exact Nat.lt_of_lt_of_le (Nat.lt_of_le_of_lt (Nat.min_le_left _ _) lt) (Nat.le_trans hl (by decide))
    · rw [List.set_set]
      intro B2 σ2 G2 H2 Q2 I2 q2
      refine he d (List.mem_of_getElem? hm) B2 σ2 G2 H2 Q2 I2 fun b G3 H3 e3 p3 x3 I3 => q2 b G3 H3 e3 ?_ x3 I3
      obtain ⟨rfl, rfl⟩ := p3
      refine ⟨fun hb => ?_, fun hb => ?_⟩
      · refine ev_var (d := d) (by rw [List.getElem?_set_self hi]) ⟨lt, by rw [List.set_set], ?_⟩
        rw [tk, List.filter_append, List.filter_cons_of_pos hb]; rfl
      · refine ⟨lt, by rw [List.set_set], ?_⟩
        rw [tk, List.filter_append, List.filter_cons_of_neg (by rw [hb]; exact Bool.false_ne_true), List.filter_nil, List.append_nil]
  · rintro e acc ⟨_, rfl, rfl⟩
    rw [List.set_set, List.take_length]
    exact hp
end
/-- a promise: the answer is F of the arguments -/
abbrev spF (n : Nat) (pre : List PyData → Prop) (F : List PyData → PyData) : Sp := spD n pre fun ds r => r = F ds
section
variable {K : PySem.W.Frag} {env : En} {P : En → PyData → Prop} {ta : TA} {pre : List PyData → Prop} {n : Nat} {F : List PyData → PyData}
theorem ev_callF (h : EvAs K ta env fun e1 ds => ds.length = n ∧ pre ds ∧ P e1 (F ds)) : EvE K (tCB (callOf (spD n pre fun ds r => r = F ds)) ta) env P :=
  ev_call fun B σ G H Q I q => h B σ G H Q I fun vs G1 H1 e1 ds p1 x1 I1 r1 => q vs G1 H1 e1 ds ⟨p1.1, p1.2.1, fun d hd => hd ▸ p1.2.2⟩ x1 I1 r1
end
/-- == and != of data; of texts without a look at their signs -/
def rEqA (K : PySem.W.Frag) : R2 := fun x y H Q => rEqD K x y H Q ∨ rEq x y H Q
def rNeA (K : PySem.W.Frag) : R2 := fun x y H Q => rNeD K x y H Q ∨ rNe x y H Q
section
variable {X : Cx} {a b : Expr} {ta tb : TE} {pos : Pos}
theorem pe_eqA {k : Nat} (hr : Room k X.A) (ha : PE X a ta) (hb : PE X b tb) : PE X (.Compare a [.Eq] [b] pos) (tOp (rEqA X.K) ta tb) := pe_cmpR ((op_eqD (Room.u64 hr)).or op_eq) ha hb (nomark _)
theorem pt_eqA {k : Nat} (hr : Room k X.A) (ha : PE X a ta) (hb : PE X b tb) : PT X (.Compare a [.Eq] [b] pos) (tTest (tOp (rEqA X.K) ta tb)) := pt_cmpR ((op_eqD (Room.u64 hr)).or op_eq) ha hb (nomark _)
theorem pe_neA {k : Nat} (hr : Room k X.A) (ha : PE X a ta) (hb : PE X b tb) : PE X (.Compare a [.NotEq] [b] pos) (tOp (rNeA X.K) ta tb) := pe_cmpR ((op_neD (Room.u64 hr)).or op_ne) ha hb (nomark _)
theorem pt_neA {k : Nat} (hr : Room k X.A) (ha : PE X a ta) (hb : PE X b tb) : PT X (.Compare a [.NotEq] [b] pos) (tTest (tOp (rNeA X.K) ta tb)) := pt_cmpR ((op_neD (Room.u64 hr)).or op_ne) ha hb (nomark _)
variable {K : PySem.W.Frag} {env : En} {P : PyData → Prop}
theorem rd_eqA {d e : PyData} (hd : eqOk d = true) (he : eqOk e = true) (p : P (.bool (PyData.eqv d e))) : RD K (rEqA K) env d e P := fun B σ G H x y Q I rx ry q => .inl (rd_eq hd he p B σ G H x y Q I rx ry q)
theorem rd_neA {d e : PyData} (hd : eqOk d = true) (he : eqOk e = true) (p : P (.bool (!PyData.eqv d e))) : RD K (rNeA K) env d e P := fun B σ G H x y Q I rx ry q => .inl (rd_ne hd he p B σ G H x y Q I rx ry q)
theorem rd_eqS {d e : Str} (p : P (.bool (decide (d = e)))) : RD K (rEqA K) env (.str d) (.str e) P := fun B σ G H x y Q I rx ry q => by
  cases rx; cases ry
  refine .inr ⟨rfl, ?_⟩
  have h : decide (V.str d = V.str e) = decide (d = e) := by
    by_cases z : d = e
    · subst z; simp
    · rw [decide_eq_false z, decide_eq_false (fun w => z (V.str.inj w))]
  rw [h]
  exact q _ G H _ p (Ex.refl G) I (.bl _)
theorem rd_neS {d e : Str} (p : P (.bool (!decide (d = e)))) : RD K (rNeA K) env (.str d) (.str e) P := fun B σ G H x y Q I rx ry q => by
  cases rx; cases ry
  refine .inr ⟨rfl, ?_⟩
  have h : decide (V.str d = V.str e) = decide (d = e) := by
    by_cases z : d = e
    · subst z; simp
    · rw [decide_eq_false z, decide_eq_false (fun w => z (V.str.inj w))]
  rw [h]
  exact q _ G H _ p (Ex.refl G) I (.bl _)
end
/-- which written part is meant -/
structure KMark (K : PySem.W.Frag) : Prop where
  mk ::
section
variable {X : Cx} {K : PySem.W.Frag} {a b c e : Expr} {ta tb tc te : TE} {pos : Pos}
theorem km_plus (m : KMark K) (hK : X.K = K) (ha : PE X a ta) (hb : PE X b tb) : PE X (.BinOp a .Add b pos) (tOp (rPlus K) ta tb) := by
  subst hK
  exact pe_plus ha hb
theorem km_times (m : KMark K) (hK : X.K = K) (ha : PE X a ta) (hb : PE X b tb) : PE X (.BinOp a .Mult b pos) (tOp (rTimes K) ta tb) := by
  subst hK
  exact pe_times ha hb
theorem km_pe_eq (m : KMark K) (hK : X.K = K) {k : Nat} (hr : Room k X.A) (ha : PE X a ta) (hb : PE X b tb) : PE X (.Compare a [.Eq] [b] pos) (tOp (rEqA K) ta tb) := by
  subst hK
  exact pe_eqA hr ha hb
theorem km_pt_eq (m : KMark K) (hK : X.K = K) {k : Nat} (hr : Room k X.A) (ha : PE X a ta) (hb : PE X b tb) : PT X (.Compare a [.Eq] [b] pos) (tTest (tOp (rEqA K) ta tb)) := by
  subst hK
  exact pt_eqA hr ha hb
theorem km_pe_ne (m : KMark K) (hK : X.K = K) {k : Nat} (hr : Room k X.A) (ha : PE X a ta) (hb : PE X b tb) : PE X (.Compare a [.NotEq] [b] pos) (tOp (rNeA K) ta tb) := by
  subst hK
  exact pe_neA hr ha hb
theorem km_pt_ne (m : KMark K) (hK : X.K = K) {k : Nat} (hr : Room k X.A) (ha : PE X a ta) (hb : PE X b tb) : PT X (.Compare a [.NotEq] [b] pos) (tTest (tOp (rNeA K) ta tb)) := by
  subst hK
  exact pt_neA hr ha hb
theorem km_slice (m : KMark K) (hK : X.K = K) {lo hi : Option Expr} {tl th : TO} {p2 : Pos} (he : PE X e te) (hl : PO X lo tl) (hh : PO X hi th) : PE X (.Subscript e (.Slice lo hi none p2) pos) (tSl (rSlice K) te tl th) := by
  subst hK
  exact pe_slice sl_any he hl hh
theorem km_ix (m : KMark K) (hK : X.K = K) (ha : PE X a ta) (hb : PE X b tb) (hs : PlainIx b) : PE X (.Subscript a b pos) (tOp (rIx K) ta tb) := by
  subst hK
  exact pe_ix ix_seq ha hb hs
theorem km_isi (m : KMark K) (hK : X.K = K) {n : String} {nm : Str} {p p2 : Pos} (bi : Bi X.mg) (hm : X.mg nm = none) (hv : bootBuiltins nm = some (.type n)) (hg : Gl X "isinstance") (hg2 : Gl X nm) (he : PE X e te)
    (h1 : starEach [e, .Name nm p2] X.env = (false, eval e X.env) :: starEach [.Name nm p2] X.env) (h2 : starEach [.Name nm p2] X.env = (false, eval (.Name nm p2) X.env) :: starEach [] X.env)
    (hpl : (backTo pos (starEach [.Name nm p2] X.env)).any (·.1) = false) (hn : nm ≠ "__name__") (hd : (nm == ("__debug__" : Str)) = false) : PE X (.Call (.Name "isinstance" p) [e, .Name nm p2] [] pos) (tCB (rIsi K) (tCons te (tCons (tC (.ty n)) tNil))) := by
  subst hK
  exact pe_isi bi hm hv hg hg2 he h1 h2 hpl hn hd
theorem km_len (m : KMark K) (hK : X.K = K) {es : List Expr} {t : TA} {p : Pos} (hg : Gl X "len") (hm : X.mg "len" = none) (ha : PA X (e :: es) t) (he : starEach (e :: es) X.env = (false, eval e X.env) :: starEach es X.env) (hpl : (backTo pos (starEach es X.env)).any (·.1) = false) : PE X (.Call (.Name "len" p) (e :: es) [] pos) (tCB (rLen K) t) := by
  subst hK
  exact pe_callB (x := "len") cl_len hg hm bLen ha (by decide) (by decide) he hpl
theorem km_all (m : KMark K) (hK : X.K = K) (hc : X.calm = true) {es : List Expr} {t : TA} {p : Pos} (hg : Gl X "all") (hm : X.mg "all" = none) (ha : PA X (e :: es) t) (he : starEach (e :: es) X.env = (false, eval e X.env) :: starEach es X.env) (hpl : (backTo pos (starEach es X.env)).any (·.1) = false) : PE X (.Call (.Name "all" p) (e :: es) [] pos) (tCB (rAll K) t) := by
  subst hK
  exact pe_callB (x := "all") (cr_all hc) hg hm bAll ha (by decide) (by decide) he hpl
theorem km_repr (m : KMark K) (hK : X.K = K) {k : Nat} (hr : Room k X.A) (hg0 : X.A.guards = some []) {es : List Expr} {t : TA} {p : Pos} (hg : Gl X "repr") (hm : X.mg "repr" = none) (ha : PA X (e :: es) t) (he : starEach (e :: es) X.env = (false, eval e X.env) :: starEach es X.env) (hpl : (backTo pos (starEach es X.env)).any (·.1) = false) : PE X (.Call (.Name "repr" p) (e :: es) [] pos) (tCB (rRepr K) t) := by
  subst hK
  exact pe_callB (x := "repr") (call_repr hr hg0) hg hm bRepr ha (by decide) (by decide) he hpl
theorem km_sum (m : KMark K) (hK : X.K = K) (hc : X.calm = true) {es : List Expr} {t : TA} {p : Pos} (hg : Gl X "sum") (hm : X.mg "sum" = none) (ha : PA X (e :: es) t) (he : starEach (e :: es) X.env = (false, eval e X.env) :: starEach es X.env) (hpl : (backTo pos (starEach es X.env)).any (·.1) = false) : PE X (.Call (.Name "sum" p) (e :: es) [] pos) (tCB (rSum K) t) := by
  subst hK
  exact pe_callB (x := "sum") (cr_sum hc) hg hm bSum ha (by decide) (by decide) he hpl
theorem km_tuple (m : KMark K) (hK : X.K = K) {es : List Expr} {t : TA} {p : Pos} (hg : Gl X "tuple") (hm : X.mg "tuple" = none) (ha : PA X (e :: es) t) (he : starEach (e :: es) X.env = (false, eval e X.env) :: starEach es X.env) (hpl : (backTo pos (starEach es X.env)).any (·.1) = false) : PE X (.Call (.Name "tuple" p) (e :: es) [] pos) (tCB (rTuple K) t) := by
  subst hK
  exact pe_callTy (x := "tuple") cl_tuple hg hm bTuple ha (by decide) (by decide) he hpl
theorem km_revT (m : KMark K) (hK : X.K = K) {k : Nat} {p1 p2 p3 : Pos} (he : PE X e te) : PE X (.Subscript e (.Slice none none (some (.UnaryOp .USub (.Constant (.int 1) k p1) p2)) p3) pos) (tRevT K te) := by
  subst hK
  exact pe_revT he
theorem km_list (m : KMark K) (hK : X.K = K) {tg : Expr} (hl : PE X e te) : PI X tg e (iList K te) := by
  subst hK
  exact pi_list hl
theorem km_tup (m : KMark K) (hK : X.K = K) {tg : Expr} (hl : PE X e te) : PI X tg e (iTup K te) := by
  subst hK
  exact pi_tup hl
theorem km_gtup (m : KMark K) (hK : X.K = K) {es : List Expr} {k : Nat} {t : TGs} {n : Nat} (hc : X.calm = true) (h : PGs X es t) (hn : (assignEach es X.env).length = n) (hst : (assignEach es X.env).findIdx? (·.1) = none) : PG X (.Tuple es k pos) (gTup K n t) := by
  subst hK
  exact pg_tup hc h hn hst
end
theorem rc_allM {K : PySem.W.Frag} {env : En} {P : PyData → Prop} {es : List PyData} {p : PyData → Bool} (h : P (.bool (es.all p))) : RC K (rAll K) env [.list (es.map fun d => .bool (p d))] P := by
  have e : (es.map fun d => PyData.bool (p d)) = (es.map p).map .bool := by rw [List.map_map]; rfl
  rw [e]
  refine rc_all ?_
  rw [List.all_map]
  exact h
theorem pe_disp1 {X : Cx} {x : Str} {j : Int} {k1 k2 : Nat} {p1 p2 pos : Pos} : PE X (.Dict [some (.Constant (.str x) k1 p1)] [.Constant (.int j) k2 p2] pos) (tDisp [(tC (.str x), tC (.int j))]) :=
  pe_disp (pps_cons pe_str pe_int pps_nil) rfl rfl (fun z => by cases z) (Nat.le_of_ble_eq_true rfl)
theorem fm (a : Int) {m : Int} (h : 0 < m ∧ m ≤ 2 ^ 64) : -(2 ^ 64) < a.fmod m ∧ a.fmod m < 2 ^ 64 := by
  have h1 := Int.fmod_nonneg_of_pos a h.1
  have h2 := Int.fmod_lt_of_pos a h.1
  omega
/-! ### the pile -/
section
variable {K : PySem.W.Frag} {env : En} {P : En → PyData → Prop} {O : Outs} {i : Nat} {p : Addr}
theorem ev_pix {tb : TE} (hi : env[i]? = some (some (.pile p))) (h : EvE K tb env fun e1 d => e1[i]? = some (some (.pile p)) ∧ ∃ j : Nat, d = .int j ∧ j < 3 ∧ ∀ z, P e1 (.int z)) : EvE K (tOp (rIx K) (tVar i) tb) env P := fun B σ G H Q I q => by
  obtain ⟨v, h1, rfl, _⟩ := I.sl i _ hi
  refine ⟨_, h1, ?_⟩
  refine h B σ G H _ I fun y G1 H1 e1 d1 p1 x1 I1 r1 => ?_
  obtain ⟨h2, j, rfl, hj, hp⟩ := p1
  cases r1
  obtain ⟨_, _, _, _, a, b, c, hl⟩ := I1.sl i _ h2
  have go : ∀ z, ([V.int a, .int b, .int c])[j]? = some (.int z) → rIx K (.ref p) (.int (j : Int)) H1 Q := fun z hz => .inl ⟨p, _, _, _, rfl, rfl, SqL.of hl, atI_nat hz, q _ G1 H1 e1 _ (hp z) x1 I1 (.int z)⟩
  match j, hj with
  | 0, _ => exact go a rfl
  | 1, _ => exact go b rfl
  | 2, _ => exact go c rfl
theorem es_pput {te ti : TE} (h : EvE K te env fun e1 d => (∃ z, d = .int z) ∧ (∃ p, e1[i]? = some (some (.pile p))) ∧ EvE K ti e1 fun e2 k => e2 = e1 ∧ (∃ j : Nat, k = .int j ∧ j < 3) ∧ O.nx e1) : EvS K (tAsg te (gSub (tVar i) ti rSetL)) env O := fun B σ G H D I a b c d f => by
  refine h B σ G H _ I fun y G1 H1 e1 d1 p1 x1 I1 r1 => ?_
  obtain ⟨⟨z, rfl⟩, ⟨p, hi⟩, p1⟩ := p1
  cases r1
  obtain ⟨v, h1, rfl, _⟩ := I1.sl i _ hi
  refine ⟨_, h1, ?_⟩
  refine p1 B σ G1 H1 _ I1 fun k G2 H2 e2 kd p2 x2 I2 r2 => ?_
  obtain ⟨rfl, ⟨j, rfl, hj⟩, hn⟩ := p2
  cases r2
  obtain ⟨_, _, _, g2, a0, b0, c0, hl⟩ := I2.sl i _ hi
  have e : env.length = env.length := rfl
  have go : ∀ xs : List V, (∃ a b c : Int, xs = [.int a, .int b, .int c]) → D.nx σ (upd H2 p (.lst xs)) := fun xs ⟨a1, b1, c1, hx⟩ => by
    have := I2.put (s' := .pile p) (o := .lst xs) hi rfl rfl rfl ⟨rfl, g2, a1, b1, c1, by rw [hx]; exact upd_same⟩
    rw [set_same hi] at this
    exact a σ G2 _ _ hn (x1.trans x2) this
  refine ⟨p, _, (j : Int), j, rfl, rfl, hl, ?_, ?_⟩
  · unfold ixN
    rw [if_pos (Int.natCast_nonneg j), if_pos (by show (j : Int) < ((3 : Nat) : Int); omega), Int.toNat_natCast]
  · match j, hj with
    | 0, _ => exact go _ ⟨z, b0, c0, rfl⟩
    | 1, _ => exact go _ ⟨a0, z, c0, rfl⟩
    | 2, _ => exact go _ ⟨a0, b0, z, rfl⟩
end
theorem km_append {X : Cx} {K : PySem.W.Frag} (m : KMark K) (hK : X.K = K) {o e : Expr} {te : TE} {t : TA} {apos cpos : Pos} (ho : PE X o te) (ha : PA X [e] t)
    (h1 : attributeBase o "append" X.env (eval o X.env) = eval o X.env)
    (h2 : ((backTo cpos (starEach [e] X.env)).all (fun x => !x.1) && (backToKw cpos (keywordEach [] X.env)).all (fun x => x.1.isSome) && decide (([e] : List Expr).length + ([] : List Keyword).length + (if ([] : List Keyword).isEmpty then 0 else 1) < 30)) = true)
    (h3 : (apos.endLine == cpos.line) = true) (h4 : starEach [e] X.env = (false, eval e X.env) :: starEach [] X.env) (h5 : (backTo cpos (starEach [] X.env)).any (·.1) = false) :
    PE X (.Call (.Attribute o "append" apos) [e] [] cpos) (tBM K "list" rAppend te t) := by
  subst hK
  exact pe_bm PySem.F.plainAttrs_list PySem.F.slot_list_append PySem.F.type_list_append mt_append ho ha h1 h2 h3 h4 h5
end FD

set_option Elab.async false
set_option linter.all false
set_option maxRecDepth 100000
set_option maxHeartbeats 2000000
namespace FD
open PySem PySem.Spec PyProof.Rows L2
/-- y = [elt for x in iter if ..] -/
theorem ps_lc1 {X : Cx} {N : List Str} {i j : Nat} {x y : Str} {px py : Pos} {elt iter : Expr} {ifs : List Expr} {scope : Scope} {pos spos : Pos} {wi : TI} {tt : TT} {te : TE} (hc : X.calm = true) (hN : X.N.Nodup) (hj : N[j]? = some y) (hX : X.N = N)
    (hy : X.env.scope.names.lookup y = some .local) (hf : X.env.scope.kind = .function) (hl : (py.line == pos.line) = true) (ha : (scope.names.any fun (n, k) => n == y && (k == .local || k == .cell)) = false)
    (hg : ∀ (s : Shared) (H : Hp) (C : Addr) (cl : List (Str × Addr)) (fp : List Addr), PG (X.blk s H scope (compEnvC scope cl C X.env) fp) (.Name x px) (gName i))
    (ok : blkC X.N X.env.scope scope [(x, i)] = true) (hi : PI X (.Name x px) iter wi)
    (ht : ∀ (s : Shared) (H : Hp) (C : Addr) (cl : List (Str × Addr)) (fp : List Addr), PTs (X.blk s H scope (compEnvC scope cl C X.env) fp) ifs tt)
    (he : ∀ (s : Shared) (H : Hp) (C : Addr) (cl : List (Str × Addr)) (fp : List Addr), PE (X.blk s H scope (compEnvC scope cl C X.env) fp) elt te)
    (hs : ∀ z, foldedSetIterable iter X.env z = pure z) :
    PS X (.Assign [.Name y py] (.ListComp elt [⟨.Name x px, iter, ifs, 0⟩] scope pos) spos) (tAsg (tLc wi (gName i) tt te [i]) (gName j)) :=
  ps_setLc (own := [(x, i)]) (g := gName i) hc hN (by rw [hX]; exact hj) hy (sw_true hf hy hl ha) hi (blkOk_by ok) hg ht he hs
end FD
set_option maxRecDepth 100000
set_option maxHeartbeats 4000000
namespace K01
open PySem PySem.Spec PyProof.Rows L2 FD
/-! the steps: which rule a piece of syntax takes, what its reading asks -/
local macro_rules | `(tactic| fail "fA") => `(tactic| first
  | with_reducible exact pa_nil
  | ((with_reducible refine' pa_cons ?q0 ?q1 ?s0); (case q0 => fail "fE"); (case q1 => fail "fA"); (case s0 => rfl)))
local macro_rules | `(tactic| fail "fO") => `(tactic| first
  | with_reducible exact po_none
  | ((with_reducible refine' po_some ?q0); (case q0 => fail "fE")))
local macro_rules | `(tactic| fail "fI") => `(tactic| first
  | ((with_reducible refine' pi_range1 ?s0 ?q0 ?q1 ?s1); (case q0 => (exact Bi.range (by assumption))); (case q1 => fail "fA"); (case s0 => rfl); (case s1 => rfl))
  | ((with_reducible refine' pi_range2 ?s0 ?q0 ?q1 ?s1 ?s2); (case q0 => (exact Bi.range (by assumption))); (case q1 => fail "fA"); (case s0 => rfl); (case s1 => rfl); (case s2 => rfl))
  | ((with_reducible refine' pi_str (e := .Constant _ _ _) ?q0); (case q0 => fail "fE"))
  | ((with_reducible refine' km_list ?mk ?hk (e := .List _ _) ?q0); (case mk => assumption); (case hk => rfl); (case q0 => fail "fE"))
  | ((with_reducible refine' km_list ?mk ?hk (e := .Call _ _ _ _) ?q0); (case mk => assumption); (case hk => rfl); (case q0 => fail "fE"))
  | ((with_reducible refine' km_list ?mk ?hk (e := .BinOp _ _ _ _) ?q0); (case mk => assumption); (case hk => rfl); (case q0 => fail "fE"))
  | ((with_reducible refine' km_tup ?mk ?hk ?q0); (case mk => assumption); (case hk => rfl); (case q0 => fail "fE")))
local macro_rules | `(tactic| fail "fV") => `(tactic| first
  | ((with_reducible refine' pe_v ?q0 ?s0 ?q1 ?s1 ?s2); (case q0 => (with_reducible assumption)); (case q1 => (first | exact .inl rfl | exact .inr (.inl rfl) | exact .inr (.inr rfl))); (case s0 => rfl); (case s1 => decide); (case s2 => decide)))
local macro_rules | `(tactic| fail "fN") => `(tactic| first
  | ((with_reducible refine' pg_v ?q0 ?s0 ?s1 ?q1 ?q2); (case q0 => (with_reducible assumption)); (case q1 => (first | exact .inl rfl | exact .inr rfl)); (case q2 => (first | exact .inl rfl | exact .inr rfl)); (case s0 => assumption); (case s1 => rfl)))
local macro_rules | `(tactic| fail "fGs") => `(tactic| first
  | with_reducible exact pgs_nil
  | ((with_reducible refine' pgs_cons ?q0 ?q1 ?s0); (case q0 => fail "fN"); (case q1 => fail "fGs"); (case s0 => rfl)))
local macro_rules | `(tactic| fail "fG") => `(tactic| first
  | fail "fN"
  | ((with_reducible refine' km_gtup ?mk ?hk ?s0 ?q0 ?s1 ?s2); (case mk => assumption); (case hk => rfl); (case q0 => fail "fGs"); (case s0 => rfl); (case s1 => rfl); (case s2 => rfl))
  | ((with_reducible refine' pg_sub ?q0 ?q1 set_list ?q2); (case q0 => fail "fV"); (case q1 => fail "fE"); (case q2 => (intro _; rfl))))
local macro_rules | `(tactic| fail "fTs") => `(tactic| first
  | with_reducible exact pts_nil
  | ((with_reducible refine' pts_one ?q0); (case q0 => fail "fT")))
local macro_rules | `(tactic| fail "fL") => `(tactic| first
  | ((with_reducible refine' pe_lc1 ?s1 ?s0 (fun _ _ _ _ _ => ?q0) ?q4 ?q1 (fun _ _ _ _ _ => ?q2) (fun _ _ _ _ _ => ?q3) (fun _ => ?s2)); (case q0 => fail "fN"); (case q1 => fail "fI"); (case q2 => fail "fTs"); (case q3 => fail "fE"); (case q4 => (kernel_rfl)); (case s0 => assumption); (case s1 => rfl); (case s2 => rfl)))
local macro_rules | `(tactic| fail "fC") => `(tactic| first
  | ((with_reducible refine' km_isi ?mk ?hk (n := "int") (nm := "int") ?q0 ?q1 bInt ?s0 ?s1 ?q2 ?s2 ?s3 ?s4 ?s5 ?s6); (case mk => assumption); (case hk => rfl); (case q0 => assumption); (case q1 => (exact Bi.int (by assumption))); (case q2 => fail "fE"); (case s0 => rfl); (case s1 => rfl); (case s2 => rfl); (case s3 => rfl); (case s4 => rfl); (case s5 => decide); (case s6 => decide))
  | ((with_reducible refine' km_isi ?mk ?hk (n := "bool") (nm := "bool") ?q0 ?q1 bBool ?s0 ?s1 ?q2 ?s2 ?s3 ?s4 ?s5 ?s6); (case mk => assumption); (case hk => rfl); (case q0 => assumption); (case q1 => (exact Bi.bool (by assumption))); (case q2 => fail "fE"); (case s0 => rfl); (case s1 => rfl); (case s2 => rfl); (case s3 => rfl); (case s4 => rfl); (case s5 => decide); (case s6 => decide))
  | ((with_reducible refine' km_isi ?mk ?hk (n := "str") (nm := "str") ?q0 ?q1 bStr ?s0 ?s1 ?q2 ?s2 ?s3 ?s4 ?s5 ?s6); (case mk => assumption); (case hk => rfl); (case q0 => assumption); (case q1 => (exact Bi.str (by assumption))); (case q2 => fail "fE"); (case s0 => rfl); (case s1 => rfl); (case s2 => rfl); (case s3 => rfl); (case s4 => rfl); (case s5 => decide); (case s6 => decide))
  | ((with_reducible refine' km_isi ?mk ?hk (n := "tuple") (nm := "tuple") ?q0 ?q1 bTuple ?s0 ?s1 ?q2 ?s2 ?s3 ?s4 ?s5 ?s6); (case mk => assumption); (case hk => rfl); (case q0 => assumption); (case q1 => (exact Bi.tuple (by assumption))); (case q2 => fail "fE"); (case s0 => rfl); (case s1 => rfl); (case s2 => rfl); (case s3 => rfl); (case s4 => rfl); (case s5 => decide); (case s6 => decide))
  | ((with_reducible refine' km_isi ?mk ?hk (n := "list") (nm := "list") ?q0 ?q1 bList ?s0 ?s1 ?q2 ?s2 ?s3 ?s4 ?s5 ?s6); (case mk => assumption); (case hk => rfl); (case q0 => assumption); (case q1 => (exact Bi.list (by assumption))); (case q2 => fail "fE"); (case s0 => rfl); (case s1 => rfl); (case s2 => rfl); (case s3 => rfl); (case s4 => rfl); (case s5 => decide); (case s6 => decide))
  | ((with_reducible refine' km_len ?mk ?hk ?s0 ?q0 ?q1 ?s1 ?s2); (case mk => assumption); (case hk => rfl); (case q0 => (exact Bi.len (by assumption))); (case q1 => fail "fA"); (case s0 => rfl); (case s1 => rfl); (case s2 => rfl))
  | ((with_reducible refine' km_all ?mk ?hk ?s0 ?s1 ?q0 ?q1 ?s2 ?s3); (case mk => assumption); (case hk => rfl); (case q0 => (exact Bi.all (by assumption))); (case q1 => fail "fA"); (case s0 => rfl); (case s1 => rfl); (case s2 => rfl); (case s3 => rfl))
  | ((with_reducible refine' km_repr ?mk ?hk ?s0 ?s1 ?s2 ?q0 ?q1 ?s3 ?s4); (case mk => assumption); (case hk => rfl); (case q0 => (exact Bi.repr (by assumption))); (case q1 => fail "fA"); (case s0 => assumption); (case s1 => assumption); (case s2 => rfl); (case s3 => rfl); (case s4 => rfl))
  | ((with_reducible refine' km_sum ?mk ?hk ?s0 ?s1 ?q0 ?q1 ?s2 ?s3); (case mk => assumption); (case hk => rfl); (case q0 => (exact Bi.sum (by assumption))); (case q1 => fail "fA"); (case s0 => rfl); (case s1 => rfl); (case s2 => rfl); (case s3 => rfl))
  | ((with_reducible refine' pe_callB (x := "max") (cl_max ?s0) ?s1 ?q0 bMax ?q1 ?s4 ?s5 ?s2 ?s3); (case q0 => (exact Bi.max (by assumption))); (case q1 => fail "fA"); (case s0 => rfl); (case s1 => rfl); (case s2 => rfl); (case s3 => rfl); (case s4 => decide); (case s5 => decide))
  | ((with_reducible refine' pe_callB (x := "min") (cl_min ?s0) ?s1 ?q0 bMin ?q1 ?s4 ?s5 ?s2 ?s3); (case q0 => (exact Bi.min (by assumption))); (case q1 => fail "fA"); (case s0 => rfl); (case s1 => rfl); (case s2 => rfl); (case s3 => rfl); (case s4 => decide); (case s5 => decide))
  | ((with_reducible refine' pe_callTy (x := "int") cl_int ?s0 ?q0 bInt ?q1 ?s3 ?s4 ?s1 ?s2); (case q0 => (exact Bi.int (by assumption))); (case q1 => fail "fA"); (case s0 => rfl); (case s1 => rfl); (case s2 => rfl); (case s3 => decide); (case s4 => decide))
  | ((with_reducible refine' km_tuple ?mk ?hk ?s0 ?q0 ?q1 ?s1 ?s2); (case mk => assumption); (case hk => rfl); (case q0 => (exact Bi.tuple (by assumption))); (case q1 => fail "fA"); (case s0 => rfl); (case s1 => rfl); (case s2 => rfl))
  | ((with_reducible refine' pe_cl0 ?q0 ?s2 ?s3 ?s4 ?s5 ?s6 ?s0 ?s1 ?s8 ?s7 ?s9); (case q0 => (with_reducible assumption)); (case s0 => assumption); (case s1 => assumption); (case s2 => rfl); (case s3 => rfl); (case s4 => rfl); (case s5 => rfl); (case s6 => rfl); (case s7 => rfl); (case s8 => decide); (case s9 => decide))
  | ((with_reducible refine' pe_cl ?q0 ?s3 ?s4 ?s5 ?s6 ?s7 ?s0 ?s1 ?s2 ?s8 ?q1 ?s11 ?s9 ?s10); (case q0 => (with_reducible assumption)); (case q1 => fail "fA"); (case s0 => assumption); (case s1 => assumption); (case s2 => (first | decide | omega)); (case s3 => rfl); (case s4 => rfl); (case s5 => rfl); (case s6 => rfl); (case s7 => rfl); (case s8 => rfl); (case s9 => rfl); (case s10 => rfl); (case s11 => decide)))
local macro_rules | `(tactic| fail "fP") => `(tactic| first
  | ((with_reducible refine' km_plus ?mk ?hk ?q0 ?q1); (case mk => assumption); (case hk => rfl); (case q0 => fail "fE"); (case q1 => fail "fE"))
  | ((with_reducible refine' pe_minus ?q0 ?q1); (case q0 => fail "fE"); (case q1 => fail "fE"))
  | ((with_reducible refine' km_times ?mk ?hk ?q0 ?q1); (case mk => assumption); (case hk => rfl); (case q0 => fail "fE"); (case q1 => fail "fE"))
  | ((with_reducible refine' pe_rest ?q0 ?q1); (case q0 => fail "fE"); (case q1 => fail "fE"))
  | ((with_reducible refine' pe_over ?q0 ?q1); (case q0 => fail "fE"); (case q1 => fail "fE"))
  | ((with_reducible refine' pe_power ?q0 ?q1); (case q0 => fail "fE"); (case q1 => fail "fE")))
local macro_rules | `(tactic| fail "fQ") => `(tactic| first
  | ((with_reducible refine' pe_lt ?q0 ?q1); (case q0 => fail "fE"); (case q1 => fail "fE"))
  | ((with_reducible refine' pe_le ?q0 ?q1); (case q0 => fail "fE"); (case q1 => fail "fE"))
  | ((with_reducible refine' pe_gt ?q0 ?q1); (case q0 => fail "fE"); (case q1 => fail "fE"))
  | ((with_reducible refine' pe_ge ?q0 ?q1); (case q0 => fail "fE"); (case q1 => fail "fE"))
  | ((with_reducible refine' pe_is ?q0 ?q1); (case q0 => fail "fE"); (case q1 => fail "fE"))
  | ((with_reducible refine' pe_isnt ?q0 ?q1); (case q0 => fail "fE"); (case q1 => fail "fE"))
  | ((with_reducible refine' km_pe_eq ?mk ?hk ?s0 ?q0 ?q1); (case mk => assumption); (case hk => rfl); (case q0 => fail "fE"); (case q1 => fail "fE"); (case s0 => assumption))
  | ((with_reducible refine' km_pe_ne ?mk ?hk ?s0 ?q0 ?q1); (case mk => assumption); (case hk => rfl); (case q0 => fail "fE"); (case q1 => fail "fE"); (case s0 => assumption))
  | ((with_reducible refine' pe_ins ?q0 ?q1 ?s0); (case q0 => fail "fE"); (case q1 => fail "fE"); (case s0 => rfl))
  | ((with_reducible refine' pe_lele ?q0 ?q1 ?q2 ?q3); (case q0 => fail "fE"); (case q1 => fail "fE"); (case q2 => fail "fE"); (case q3 => (with_unfolding_all rfl))))
local macro_rules | `(tactic| fail "fE") => `(tactic| first
  | with_reducible exact pe_int
  | with_reducible exact pe_str
  | with_reducible exact pe_non
  | with_reducible exact pe_bl
  | with_reducible exact pe_disp1
  | fail "fV"
  | ((with_reducible refine' pe_neg ?q0); (case q0 => fail "fE"))
  | fail "fP"
  | fail "fQ"
  | ((with_reducible refine' pe_and ?q0 ?q1); (case q0 => fail "fE"); (case q1 => fail "fE"))
  | ((with_reducible refine' pe_or ?q0 ?q1); (case q0 => fail "fE"); (case q1 => fail "fE"))
  | ((with_reducible refine' pe_one ?q0); (case q0 => fail "fE"))
  | ((with_reducible refine' pe_not ?q0); (case q0 => fail "fE"))
  | ((with_reducible refine' pe_ifExp ?q0 ?q1 ?q2); (case q0 => fail "fT"); (case q1 => fail "fE"); (case q2 => fail "fE"))
  | ((with_reducible refine' km_revT ?mk ?hk ?q0); (case mk => assumption); (case hk => rfl); (case q0 => fail "fE"))
  | ((with_reducible refine' km_slice ?mk ?hk ?q0 ?q1 ?q2); (case mk => assumption); (case hk => rfl); (case q0 => fail "fE"); (case q1 => fail "fO"); (case q2 => fail "fO"))
  | ((with_reducible refine' pe_dget (o := .Name "times" _) ?q2 ?q0 ?q1 ?q3); (case q0 => fail "fV"); (case q1 => fail "fE"); (case q2 => (exact Room.u1 (by assumption))); (case q3 => (exact fun _ _ => rfl)))
  | ((with_reducible refine' km_ix ?mk ?hk ?q0 ?q1 ?q2); (case mk => assumption); (case hk => rfl); (case q0 => fail "fE"); (case q1 => fail "fE"); (case q2 => (exact fun _ _ => rfl)))
  | fail "fC"
  | ((with_reducible refine' km_append ?mk ?hk ?q0 ?q1 ?s0 ?s1 ?s2 ?s3 ?s4); (case mk => assumption); (case hk => rfl); (case q0 => fail "fV"); (case q1 => fail "fA"); (case s0 => rfl); (case s1 => rfl); (case s2 => rfl); (case s3 => rfl); (case s4 => rfl))
  | ((with_reducible refine' pe_lst ?q0); (case q0 => fail "fA"))
  | ((with_reducible refine' pe_tup ?q0); (case q0 => fail "fA"))
  | fail "fL")
local macro_rules | `(tactic| fail "fT") => `(tactic| first
  | ((with_reducible refine' pt_lt ?q0 ?q1); (case q0 => fail "fE"); (case q1 => fail "fE"))
  | ((with_reducible refine' pt_le ?q0 ?q1); (case q0 => fail "fE"); (case q1 => fail "fE"))
  | ((with_reducible refine' pt_gt ?q0 ?q1); (case q0 => fail "fE"); (case q1 => fail "fE"))
  | ((with_reducible refine' pt_ge ?q0 ?q1); (case q0 => fail "fE"); (case q1 => fail "fE"))
  | ((with_reducible refine' pt_is ?q0 ?q1); (case q0 => fail "fE"); (case q1 => fail "fE"))
  | ((with_reducible refine' pt_isnt ?q0 ?q1); (case q0 => fail "fE"); (case q1 => fail "fE"))
  | ((with_reducible refine' km_pt_eq ?mk ?hk ?s0 ?q0 ?q1); (case mk => assumption); (case hk => rfl); (case q0 => fail "fE"); (case q1 => fail "fE"); (case s0 => assumption))
  | ((with_reducible refine' km_pt_ne ?mk ?hk ?s0 ?q0 ?q1); (case mk => assumption); (case hk => rfl); (case q0 => fail "fE"); (case q1 => fail "fE"); (case s0 => assumption))
  | ((with_reducible refine' pt_ins ?q0 ?q1 ?s0); (case q0 => fail "fE"); (case q1 => fail "fE"); (case s0 => rfl))
  | ((with_reducible refine' pt_lele ?q0 ?q1 ?q2 ?q3); (case q0 => fail "fE"); (case q1 => fail "fE"); (case q2 => fail "fE"); (case q3 => (with_unfolding_all rfl)))
  | ((with_reducible refine' pt_cmp (pc_dnotin ?q2 ?q0 ?q1) ?s0); (case q0 => fail "fE"); (case q1 => fail "fE"); (case q2 => (exact Room.u1 (by assumption))); (case s0 => rfl))
  | ((with_reducible refine' pt_not ?q0); (case q0 => fail "fT"))
  | ((with_reducible refine' PW.pt ?q0); (case q0 => fail "fW"))
  | ((with_reducible refine' pt_val ?q0 ?q1); (case q0 => fail "fE"); (case q1 => (intro _; rfl))))
local macro_rules | `(tactic| fail "fW") => `(tactic| first
  | ((with_reducible refine' pw_and ?q0 ?q1); (case q0 => fail "fT"); (case q1 => fail "fW"))
  | ((with_reducible refine' pw_or ?q0 ?q1); (case q0 => fail "fT"); (case q1 => fail "fW"))
  | ((with_reducible refine' pw_and1 ?q0); (case q0 => fail "fT"))
  | ((with_reducible refine' pw_or1 ?q0); (case q0 => fail "fT")))
local macro_rules | `(tactic| fail "fS") => `(tactic| first
  | ((with_reducible refine' ps_ret ?q0); (case q0 => fail "fE"))
  | ((with_reducible refine' ps_if ?q0 ?q1 ?q2); (case q0 => fail "fT"); (case q1 => fail "fZ"); (case q2 => fail "fZ"))
  | ((with_reducible refine' ps_dput (o := .Name "times" _) ?q3 ?q0 ?q1 ?q2 ?s0); (case q0 => fail "fV"); (case q1 => fail "fE"); (case q2 => fail "fE"); (case q3 => (exact Room.u1 (by assumption))); (case s0 => rfl))
  | ((with_reducible refine' ps_asg ?q0 ?q1 ?s0 ?s1 ?s2); (case q0 => fail "fE"); (case q1 => fail "fG"); (case s0 => rfl); (case s1 => rfl); (case s2 => rfl))
  | ((with_reducible refine' ps_lc1 ?s1 ?s0 ?q5 ?s2 ?s3 ?s4 ?s5 ?s6 (fun _ _ _ _ _ => ?q0) ?q4 ?q1 (fun _ _ _ _ _ => ?q2) (fun _ _ _ _ _ => ?q3) (fun _ => ?s7)); (case q0 => fail "fN"); (case q1 => fail "fI"); (case q2 => fail "fTs"); (case q3 => fail "fE"); (case q4 => (kernel_rfl)); (case q5 => (with_reducible assumption)); (case s0 => assumption); (case s1 => rfl); (case s2 => rfl); (case s3 => rfl); (case s4 => rfl); (case s5 => rfl); (case s6 => rfl); (case s7 => rfl))
  | ((with_reducible refine' ps_for PassesOwn.never ?s0 ?q0 ?q1 ?q2 ?q3); (case q0 => fail "fI"); (case q1 => fail "fG"); (case q2 => fail "fZ"); (case q3 => (intro _; rfl)); (case s0 => rfl))
  | ((with_reducible refine' ps_expr ?q0 ?s0); (case q0 => fail "fE"); (case s0 => rfl))
  | with_reducible exact ps_pass
  | with_reducible exact ps_never (st := .Raise _ _ _))
local macro_rules | `(tactic| fail "fZ") => `(tactic| first
  | with_reducible exact pss_nil
  | ((with_reducible refine' pss_one ?q0); (case q0 => fail "fS"))
  | ((with_reducible refine' pss_cons ?q0 ?q1); (case q0 => fail "fS"); (case q1 => fail "fZ")))
local macro_rules | `(tactic| fail "fTop") => `(tactic| (show PSs _ (_ :: _) _; fail "fZ"))
local macro_rules | `(tactic| fail "v1") => `(tactic| first
  | with_reducible refine ev_int ?_
  | with_reducible refine ev_str ?_
  | with_reducible refine ev_bl ?_
  | with_reducible refine ev_non ?_
  | ((with_reducible refine' ev_var ?zh ?znx); (case zh => rfl))
  | ((with_reducible refine' ev_pix ?zh ?znx); (case zh => rfl))
  | ((with_reducible refine' ev_sat ?zh ?znx); (case zh => rfl))
  | ((with_reducible refine' ev_slen ?zh ?znx); (case zh => rfl))
  | ((with_reducible refine' ev_ssum ?zh ?znx); (case zh => rfl))
  | with_reducible refine ev_op ?_
  | with_reducible refine ev_un ?_
  | with_reducible refine ev_isi (by decide) ?_
  | with_reducible refine ev_tup ?_
  | with_reducible refine ev_lst ?_
  | with_reducible refine ev_callF ?_
  | with_reducible refine ev_call ?_
  | ((with_reducible refine' ev_callP ?zh ?znx); (case zh => rfl))
  | with_reducible refine ev_cb ?_
  | with_reducible refine ev_sl ?_
  | with_reducible refine ev_revT ?_
  | with_reducible refine ev_dni ?_
  | with_reducible refine ev_dget ?_
  | with_reducible refine ev_and ?_
  | with_reducible refine ev_or ?_
  | with_reducible refine ev_not ?_
  | with_reducible refine ev_test ?_
  | with_reducible refine ev_tB ?_
  | with_reducible refine ev_if ?_
  | with_reducible refine ev_chain ?_
  | with_reducible refine eb_and ?_
  | with_reducible refine eb_or ?_
  | with_reducible refine eb_not ?_
  | with_reducible refine eb_yes ?_
  | with_reducible refine ea_nil ?_
  | with_reducible refine ea_cons ?_
  | with_reducible refine eo_none ?_
  | with_reducible refine eo_some ?_
  | with_reducible refine es_next ?_
  | with_reducible refine es_seq ?_
  | with_reducible refine es_ret ?_
  | with_reducible refine es_if ?_
  | with_reducible refine es_pput ?_
  | with_reducible refine es_own ?_
  | with_reducible refine es_asg ?_
  | with_reducible refine eg_name ?_
  | with_reducible refine egs_cons ?_
  | with_reducible refine egs_nil ?_
  | ((with_reducible refine' eg_tup ?zh ?znx); (case zh => rfl)))
local macro_rules | `(tactic| fail "v2") => `(tactic| first
  | with_reducible refine rd_plusI ?_
  | with_reducible refine rd_lt ?_
  | with_reducible refine rd_leI ?_
  | with_reducible refine rd_leS ?_
  | with_reducible refine rd_gt ?_
  | with_reducible refine rd_ge ?_
  | with_reducible refine rd_isB ?_
  | with_reducible refine rd_isNotB ?_
  | with_reducible refine rd_isN ?_
  | with_reducible refine rd_isNotN ?_
  | with_reducible refine rd_inStr ?_
  | with_reducible refine rd_minus ?_
  | with_reducible refine rd_modI (by decide) ?_
  | with_reducible refine rd_overI (by decide) ?_
  | with_reducible refine rd_plusL (by decide) ?_
  | with_reducible refine rd_plusT (by decide) ?_
  | with_reducible refine rc_lenL ?_
  | with_reducible refine rc_lenT ?_
  | with_reducible refine rc_int ?_
  | with_reducible refine rc_intB ?_
  | with_reducible refine rc_max ?_
  | with_reducible refine rc_min ?_
  | with_reducible refine rc_tuple ?_
  | with_reducible refine rc_reprN ?_
  | with_reducible refine rs_list ?_
  | with_reducible refine rs_tup ?_
  | with_reducible refine rc_allM ?_
  | ((with_reducible refine' rd_eqA ?za ?zb ?znx); (case za => first | with_reducible assumption | rfl | decide +kernel); (case zb => first | with_reducible assumption | rfl | decide +kernel))
  | ((with_reducible refine' rd_neA ?za ?zb ?znx); (case za => first | with_reducible assumption | rfl | decide +kernel); (case zb => first | with_reducible assumption | rfl | decide +kernel))
  | ((with_reducible refine' rd_timesI ?za ?znx); (case za => first | exact .inr (by decide) | exact .inl (by decide) | exact .inl (fm _ (by decide))))
  | ((with_reducible refine' rd_ixT ?zh ?znx); (case zh => rfl))
  | ((with_reducible refine' rd_ixL ?zh ?znx); (case zh => rfl)))
local macro_rules | `(tactic| fail "vB") => `(tactic| first
  | (refine ⟨fun hc => ?_, fun hc => ?_⟩ <;> (try (exact Bool.noConfusion hc))))
local macro_rules | `(tactic| fail "v3") => `(tactic| first
  | with_reducible refine ⟨_, rfl, ?_⟩
  | with_reducible refine ⟨rfl, ?_⟩
  | with_reducible refine ⟨_, _, rfl, rfl, ?_⟩)
local macro_rules | `(tactic| fail "v") => `(tactic| repeat (first | fail "v1" | fail "v2" | fail "v3"))
local macro_rules | `(tactic| fail "w") => `(tactic| repeat' (first | fail "v1" | fail "v2" | fail "v3" | fail "vB" | fail))
local macro_rules | `(tactic| fail "v4") => `(tactic| first
  | ((refine ⟨Nat.le_of_ble_eq_true ?zsz, ?znx⟩); (case zsz => rfl)))
local macro_rules | `(tactic| fail "z") => `(tactic| repeat' (first | fail "v1" | fail "v2" | fail "v3" | fail "v4" | fail "vB" | fail))

/-! ### the text -/
def tp (i : Nat) : Stmt := PySem.Challenge.pw_sinceclocks_k01_what_is_a_row.main.body.getD i (.Pass ⟨0, 0, 0, 0⟩)
abbrev sNum : Stmt := tp 6
theorem scsNum : FnScope ["thing", "least"] ["thing", "least"] (defScope sNum) := ⟨rfl, rfl, rfl, by decide +kernel, rfl, by decide +kernel, by decide +kernel⟩
abbrev sTup : Stmt := tp 7
theorem scsTup : FnScope ["thing", "size"] ["thing", "size"] (defScope sTup) := ⟨rfl, rfl, rfl, by decide +kernel, rfl, by decide +kernel, by decide +kernel⟩
abbrev sLet : Stmt := tp 8
theorem scsLet : FnScope ["thing"] ["thing"] (defScope sLet) := ⟨rfl, rfl, rfl, by decide +kernel, rfl, by decide +kernel, by decide +kernel⟩
abbrev sEvt : Stmt := tp 11
theorem scsEvt : FnScope ["thing"] ["thing"] (defScope sEvt) := ⟨rfl, rfl, rfl, by decide +kernel, rfl, by decide +kernel, by decide +kernel⟩
abbrev sWhole : Stmt := tp 19
theorem scsWhole : FnScope ["thing"] ["thing"] (defScope sWhole) := ⟨rfl, rfl, rfl, by decide +kernel, rfl, by decide +kernel, by decide +kernel⟩
abbrev sFrom : Stmt := tp 23
theorem scsFrom : FnScope ["thing", "low"] ["thing", "low"] (defScope sFrom) := ⟨rfl, rfl, rfl, by decide +kernel, rfl, by decide +kernel, by decide +kernel⟩
abbrev sLetL : Stmt := tp 24
theorem scsLetL : FnScope ["thing"] ["thing"] (defScope sLetL) := ⟨rfl, rfl, rfl, by decide +kernel, rfl, by decide +kernel, by decide +kernel⟩
/-! ### what is asked of data -/
def isNum (j : Int) : PyData → Bool
  | .int i => decide (j ≤ i)
  | _ => false
def isInt : PyData → Bool
  | .int _ => true
  | _ => false
def isTup (n : Int) : PyData → Bool
  | .tuple ds => (ds.length : Int) == n
  | _ => false
def isLet : PyData → Bool
  | .str x => match x.cps.toList with
    | [c] => decide (97 ≤ c ∧ c ≤ 122)
    | _ => false
  | _ => false
def isEv : PyData → Bool
  | .tuple [a, t] => isLet a && isNum 0 t
  | _ => false
mutual
/-- nothing in it is long -/
def sm : PyData → Bool
  | .str x => decide (x.length ≤ 1000)
  | .list ds => decide (ds.length ≤ 1000) && smA ds
  | .tuple ds => decide (ds.length ≤ 1000) && smA ds
  | .dict _ => false
  | _ => true
def smA : List PyData → Bool
  | [] => true
  | d :: ds => sm d && smA ds
end
theorem str_one (x : Str) (h : x.length = 1) : ∃ c, x = ⟨#[c]⟩ := by
  obtain ⟨⟨l⟩⟩ := x
  have h' : l.length = 1 := h
  match l, h' with
  | [c], _ => exact ⟨c, rfl⟩
theorem sm_str {x : Str} (h : sm (.str x) = true) : x.length ≤ sizeLine := by
  have h' : x.length ≤ 1000 := by simpa [sm] using h
  exact Nat.le_trans h' (by decide)
theorem sm_tup {ds : List PyData} (h : sm (.tuple ds) = true) : ds.length ≤ 1000 ∧ smA ds = true := by simpa [sm] using h
theorem isLet_len {x : Str} (h : x.length ≠ 1) : isLet (.str x) = false := by
  obtain ⟨⟨l⟩⟩ := x
  have h' : l.length ≠ 1 := h
  match l, h' with
  | [], _ => rfl
  | [c], h => exact absurd rfl h
  | _ :: _ :: _, _ => rfl
section
variable {P : Program} {w : World} {K : PySem.W.Frag} {mg : Str → Option Value} {base : Heap} {f : Addr} {fd : FuncData}
def fNum : List PyData → PyData
  | [d, .int j] => .bool (isNum j d)
  | _ => .none
theorem ok_num (F : L2.Fun K "is_number" "is_number" sNum f fd) (bi : Bi mg) :
    FnG P w K mg base 1 f fd ["thing", "least"] (spF 2 (fun ds => ∃ d j, ds = [d, .int j]) fNum) := by
  refine fnD F scsNum _ _ fun cdv A outer s H hg hr => ?_
  refine' ⟨_, ?h1, ?h2⟩
  case h1 =>
    have km : KMark K := ⟨⟩
    have nd : (["thing", "least"] : List Str).Nodup := by decide +kernel
    have : (["thing", "least"] : List Str)[0]? = some ("thing" : Str) := rfl
    have : (["thing", "least"] : List Str)[1]? = some ("least" : Str) := rfl
    fail "fTop"
  case h2 =>
    rintro ds hl ⟨d, j, rfl⟩
    try dsimp only [cxK, blkK]
    show EvS K _ [some (.dat d), some (.dat (.int j))] _
    cases d
    all_goals (fail "w")
    all_goals rfl
def fTup : List PyData → PyData
  | [d, .int j] => .bool (isTup j d)
  | _ => .none
theorem ok_tup (F : L2.Fun K "is_tuple" "is_tuple" sTup f fd) (bi : Bi mg) :
    FnG P w K mg base 1 f fd ["thing", "size"] (spF 2 (fun ds => ∃ d j, ds = [d, .int j]) fTup) := by
  refine fnD F scsTup _ _ fun cdv A outer s H hg hr => ?_
  refine' ⟨_, ?h1, ?h2⟩
  case h1 =>
    have km : KMark K := ⟨⟩
    have nd : (["thing", "size"] : List Str).Nodup := by decide +kernel
    have : (["thing", "size"] : List Str)[0]? = some ("thing" : Str) := rfl
    have : (["thing", "size"] : List Str)[1]? = some ("size" : Str) := rfl
    fail "fTop"
  case h2 =>
    rintro ds hl ⟨d, j, rfl⟩
    try dsimp only [cxK, blkK]
    show EvS K _ [some (.dat d), some (.dat (.int j))] _
    cases d
    all_goals (fail "w")
    all_goals rfl
/-! a letter -/
theorem eqv_int (i j : Int) : PyData.eqv (.int i) (.int j) = (i == j) := rfl
theorem len_one {x : Str} (h : PyData.eqv (.int x.length) (.int 1) = true) : x.length = 1 := by
  have h' : ((x.length : Int) == 1) = true := h
  have := eq_of_beq h'
  omega
theorem len_not {x : Str} (h : PyData.eqv (.int x.length) (.int 1) = false) : x.length ≠ 1 := by
  have h' : ((x.length : Int) == 1) = false := h
  intro e
  rw [e] at h'
  cases h'
theorem one_lt (a b : Nat) : ([a] < [b]) ↔ a < b := by
  constructor
  · intro h
    cases h with
    | cons h => cases h
    | rel h => exact h
  · exact fun h => .rel h
theorem let_in (c : Nat) : (!(Builtin.Str.occurrences "abcdefghijklmnopqrstuvwxyz" ⟨#[c]⟩ 0 (Str.length "abcdefghijklmnopqrstuvwxyz") 1).isEmpty) = decide (97 ≤ c ∧ c ≤ 122) := by
  rw [PySem.StrLaws.found_one]
  apply decide_eq_decide.mpr
  have e : (Str.ofString "abcdefghijklmnopqrstuvwxyz").cps.toList = [97, 98, 99, 100, 101, 102, 103, 104, 105, 106, 107, 108, 109, 110, 111, 112, 113, 114, 115, 116, 117, 118, 119, 120, 121, 122] := by decide +kernel
  rw [e]
  simp only [List.mem_cons, List.not_mem_nil, or_false]
  omega
def fLet : List PyData → PyData
  | [d] => .bool (isLet d)
  | _ => .none
theorem ok_let (F : L2.Fun K "is_letter" "is_letter" sLet f fd) (bi : Bi mg) :
    FnG P w K mg base 1 f fd ["thing"] (spF 1 (fun ds => ∃ d, ds = [d] ∧ sm d = true) fLet) := by
  refine fnD F scsLet _ _ fun cdv A outer s H hg hr => ?_
  refine' ⟨_, ?h1, ?h2⟩
  case h1 =>
    have km : KMark K := ⟨⟩
    have nd : (["thing"] : List Str).Nodup := by decide +kernel
    have : (["thing"] : List Str)[0]? = some ("thing" : Str) := rfl
    fail "fTop"
  case h2 =>
    rintro ds hl ⟨d, rfl, hd⟩
    try dsimp only [cxK, blkK]
    show EvS K _ [some (.dat d)] _
    cases d
    case str x =>
      have ea : (Str.ofString "a").cps.toList = [97] := by decide +kernel
      have ez : (Str.ofString "z").cps.toList = [122] := by decide +kernel
      fail "w"
      refine rc_lenS (sm_str hd) ?_
      fail "w"
      · rename_i h1 h
        obtain ⟨c, rfl⟩ := str_one x (len_one h1)
        rw [ea] at h
        rw [ez]
        show PyData.bool (!decide ([122] < [c])) = PyData.bool (decide (97 ≤ c ∧ c ≤ 122))
        have h' : ¬ [c] < [97] := by simpa using h
        rw [one_lt] at h'
        congr 1
        by_cases q : 122 < c
        · rw [decide_eq_true ((one_lt 122 c).mpr q), decide_eq_false (by omega)]; rfl
        · rw [decide_eq_false (fun z => q ((one_lt 122 c).mp z)), decide_eq_true (by omega)]; rfl
      · rename_i h1 h
        obtain ⟨c, rfl⟩ := str_one x (len_one h1)
        rw [ea] at h
        show PyData.bool false = PyData.bool (decide (97 ≤ c ∧ c ≤ 122))
        have h' : [c] < [97] := by simpa using h
        rw [one_lt] at h'
        rw [decide_eq_false (by omega)]
      · rename_i h
        show PyData.bool false = PyData.bool (isLet (.str x))
        rw [isLet_len (len_not h)]
    all_goals (fail "w")
    all_goals rfl
end


abbrev sRow : Stmt := tp 10
theorem scsRow : FnScope ["thing", "grain", "events", "event", "k"] ["thing"] (defScope sRow) := ⟨rfl, rfl, rfl, by decide +kernel, rfl, by decide +kernel, by decide +kernel⟩
abbrev sChk : Stmt := tp 12
theorem scsChk : FnScope ["row"] ["row"] (defScope sChk) := ⟨rfl, rfl, rfl, by decide +kernel, rfl, by decide +kernel, by decide +kernel⟩
abbrev sLast : Stmt := tp 13
theorem scsLast : FnScope ["events", "times", "letter", "time"] ["events"] (defScope sLast) := ⟨rfl, rfl, rfl, by decide +kernel, rfl, by decide +kernel, by decide +kernel⟩
abbrev sSince : Stmt := tp 14
theorem scsSince : FnScope ["row", "i", "x", "events", "times"] ["row", "i", "x"] (defScope sSince) := ⟨rfl, rfl, rfl, by decide +kernel, rfl, by decide +kernel, by decide +kernel⟩
abbrev preN : List PyData → Prop := fun ds => ∃ d j, ds = [d, .int j]
abbrev preD : List PyData → Prop := fun ds => ∃ d, ds = [d] ∧ sm d = true
theorem isTup2 {d : PyData} (h : isTup 2 d = true) : ∃ a b, d = .tuple [a, b] := by
  cases d with
  | tuple ds =>
    have h' : ((ds.length : Int) == 2) = true := h
    have := eq_of_beq h'
    match ds, this with
    | [a, b], _ => exact ⟨a, b, rfl⟩
    | [], h => exact absurd h (by decide)
    | [_], h => exact absurd h (by simp)
    | _ :: _ :: _ :: _, h => exact absurd h (by simp; omega)
  | _ => cases h
theorem isEv_not {d : PyData} (h : isTup 2 d = false) : isEv d = false := by
  cases d with
  | tuple ds =>
    match ds with
    | [a, b] => cases h
    | [] => rfl
    | [_] => rfl
    | _ :: _ :: _ :: _ => rfl
  | _ => rfl
theorem smA_mem {d : PyData} : ∀ {ds : List PyData}, smA ds = true → d ∈ ds → sm d = true
  | [], _, h => by cases h
  | e :: es, h, hm => by
    have h' : (sm e && smA es) = true := h
    rw [Bool.and_eq_true] at h'
    rcases List.mem_cons.mp hm with rfl | q
    · exact h'.1
    · exact smA_mem h'.2 q
theorem sm_two {a b : PyData} (h : sm (.tuple [a, b]) = true) : sm a = true ∧ sm b = true := by
  have := (sm_tup h).2
  simpa [smA] using this
def timesOf (evs : List PyData) : List Int := evs.map fun e => match e with
  | .tuple [_, .int t] => t
  | _ => 0
def nondec (ts : List Int) : Bool := (List.range (ts.length - 1)).all fun i => decide (ts.getD i 0 ≤ ts.getD (i + 1) 0)
theorem timesOf_len (evs : List PyData) : (timesOf evs).length = evs.length := by simp [timesOf]
theorem isEv_shape {d : PyData} (h : isEv d = true) : ∃ a t, d = .tuple [a, .int t] ∧ isLet a = true ∧ 0 ≤ t := by
  cases d with
  | tuple ds =>
    match ds, h with
    | [a, b], h =>
      have h' : (isLet a && isNum 0 b) = true := h
      rw [Bool.and_eq_true] at h'
      cases b with
      | int t => exact ⟨a, t, rfl, h'.1, of_decide_eq_true h'.2⟩
      | _ => exact absurd h'.2 (by simp [isNum])
    | [], h => exact absurd h (by simp [isEv])
    | [_], h => exact absurd h (by simp [isEv])
    | _ :: _ :: _ :: _, h => exact absurd h (by simp [isEv])
  | _ => exact absurd h (by simp [isEv])
theorem timesOf_get {evs : List PyData} {i : Nat} {a : PyData} {t : Int} (h : evs[i]? = some (.tuple [a, .int t])) : (timesOf evs).getD i 0 = t := by
  unfold timesOf
  rw [List.getD_eq_getElem?_getD, List.getElem?_map, h]
  rfl
theorem ev_at {evs : List PyData} (h : evs.all isEv = true) {i : Nat} (hi : i < evs.length) : ∃ a, evs[i]? = some (.tuple [a, .int ((timesOf evs).getD i 0)]) ∧ isLet a = true ∧ 0 ≤ (timesOf evs).getD i 0 := by
  have hm := List.all_eq_true.mp h evs[i] (List.getElem_mem hi)
  obtain ⟨a, t, e, ha, ht⟩ := isEv_shape hm
  have e' : evs[i]? = some (.tuple [a, .int t]) := by rw [List.getElem?_eq_getElem hi, e]
  rw [timesOf_get e']
  exact ⟨a, e', ha, ht⟩
/-- one event is not later than the next -/
def le2 (ts : List Int) : PyData → Bool
  | .int k => decide (ts.getD k.toNat 0 ≤ ts.getD (k.toNat + 1) 0)
  | _ => false
theorem nondec_le2 (ts : List Int) : (nums 0 ((ts.length : Int) - 1).toNat).all (le2 ts) = nondec ts := by
  have e : ((ts.length : Int) - 1).toNat = ts.length - 1 := by omega
  unfold nums nondec
  rw [e, List.all_map]
  congr 1
  funext i
  show decide _ = decide _
  have e2 : (0 + (i : Int)).toNat = i := by omega
  rw [e2]
def rowD : PyData → Bool
  | .tuple [g, .tuple evs] => isNum 1 g && (evs.all isEv && nondec (timesOf evs))
  | _ => false
theorem rowD_not {d : PyData} (h : isTup 2 d = false) : rowD d = false := by
  cases d with
  | tuple ds =>
    match ds, h with
    | [_, _], h => exact absurd h (by simp [isTup])
    | [], _ => rfl
    | [_], _ => rfl
    | _ :: _ :: _ :: _, _ => simp [rowD]
  | _ => rfl
section
variable {P : Program} {w : World} {K : PySem.W.Frag} {mg : Str → Option Value} {base : Heap} {f : Addr} {fd : FuncData}
def fEvt : List PyData → PyData
  | [d] => .bool (isEv d)
  | _ => .none
theorem ok_evt (F : L2.Fun K "is_event" "is_event" sEvt f fd) (bi : Bi mg) (c1 : Cal P w K mg base 1 "is_tuple" ["thing", "size"] (spF 2 preN fTup)) (c2 : Cal P w K mg base 1 "is_letter" ["thing"] (spF 1 preD fLet)) (c3 : Cal P w K mg base 1 "is_number" ["thing", "least"] (spF 2 preN fNum)) :
    FnG P w K mg base 2 f fd ["thing"] (spF 1 preD fEvt) := by
  refine fnD F scsEvt _ _ fun cdv A outer s H hg hr => ?_
  refine' ⟨_, ?h1, ?h2⟩
  case h1 =>
    have km : KMark K := ⟨⟩
    have nd : (["thing"] : List Str).Nodup := by decide +kernel
    have : (["thing"] : List Str)[0]? = some ("thing" : Str) := rfl
    fail "fTop"
  case h2 =>
    rintro ds hl ⟨d, rfl, hd⟩
    try dsimp only [cxK, blkK]
    show EvS K _ [some (.dat d)] _
    fail "w"
    refine ⟨⟨_, _, rfl⟩, isTup 2 d, rfl, fun hT => ?_, fun hT => ?_⟩
    · obtain ⟨a, b, rfl⟩ := isTup2 hT
      obtain ⟨sa, sb⟩ := sm_two hd
      fail "w"
      refine ⟨⟨_, rfl, sa⟩, isLet a, rfl, fun hA => ?_, fun hA => ?_⟩
      · fail "w"
        refine ⟨⟨_, _, rfl⟩, ?_⟩
        show PyData.bool (isNum 0 b) = PyData.bool (isLet a && isNum 0 b)
        rw [hA]; rfl
      · show PyData.bool false = PyData.bool (isLet a && isNum 0 b)
        rw [hA]; rfl
    · show PyData.bool false = PyData.bool (isEv d)
      rw [isEv_not hT]
def fRow : List PyData → PyData
  | [d] => .bool (rowD d)
  | _ => .none
theorem ok_row (F : L2.Fun K "is_row" "is_row" sRow f fd) (bi : Bi mg) (c1 : Cal P w K mg base 1 "is_tuple" ["thing", "size"] (spF 2 preN fTup)) (c2 : Cal P w K mg base 2 "is_event" ["thing"] (spF 1 preD fEvt)) (c3 : Cal P w K mg base 1 "is_number" ["thing", "least"] (spF 2 preN fNum)) :
    FnG P w K mg base 3 f fd ["thing"] (spF 1 preD fRow) := by
  refine fnD F scsRow _ _ fun cdv A outer s H hg hr => ?_
  refine' ⟨_, ?h1, ?h2⟩
  case h1 =>
    have km : KMark K := ⟨⟩
    have nd : (["thing", "grain", "events", "event", "k"] : List Str).Nodup := by decide +kernel
    have : (["thing", "grain", "events", "event", "k"] : List Str)[0]? = some ("thing" : Str) := rfl
    have : (["thing", "grain", "events", "event", "k"] : List Str)[1]? = some ("grain" : Str) := rfl
    have : (["thing", "grain", "events", "event", "k"] : List Str)[2]? = some ("events" : Str) := rfl
    have : (["thing", "grain", "events", "event", "k"] : List Str)[3]? = some ("event" : Str) := rfl
    have : (["thing", "grain", "events", "event", "k"] : List Str)[4]? = some ("k" : Str) := rfl
    fail "fTop"
  case h2 =>
    rintro ds hl ⟨d, rfl, hd⟩
    try dsimp only [cxK, blkK]
    show EvS K _ [some (.dat d), none, none, none, none] _
    fail "w"
    refine ⟨⟨_, _, rfl⟩, isTup 2 d, rfl, fun hT => ?_, fun hT => ?_⟩
    · have hT' : isTup 2 d = false := by simpa using hT
      fail "w"
      show PyData.bool false = PyData.bool (rowD d)
      rw [rowD_not hT']
    · have hT' : isTup 2 d = true := by simpa using hT
      obtain ⟨g, evs, rfl⟩ := isTup2 hT'
      obtain ⟨sg, se⟩ := sm_two hd
      fail "w"
      refine ⟨⟨_, _, rfl⟩, isNum 1 g, rfl, fun h1 => ?_, fun h1 => ?_⟩
      · cases evs with
        | tuple es =>
          obtain ⟨sl, _⟩ := sm_tup se
          fail "w"
          refine ev_map (fun d => .bool (isEv d)) ?_
          refine ei_tup ?_
          fail "w"
          refine ⟨Nat.le_trans sl (by decide), fun d hd => ?_, ?_⟩
          · fail "w"
            exact ⟨⟨_, rfl, smA_mem ‹_› hd⟩, rfl, rfl⟩
          fail "w"
          · rename_i hc
            have hc' : es.all isEv = false := by simpa using hc
            show PyData.bool false = PyData.bool (isNum 1 g && (es.all isEv && nondec (timesOf es)))
            rw [hc', Bool.false_and, Bool.and_false]
          · rename_i hc
            have hc' : es.all isEv = true := by simpa using hc
            refine ev_map (fun d => .bool (le2 (timesOf es) d)) ?_
            refine ei_rng1 ?_
            fail "w"
            refine ⟨by omega, ?_, ?_, ?_⟩
            · rw [nums_length]; omega
            · intro d hd
              obtain ⟨i, hi⟩ := List.getElem?_of_mem hd
              obtain ⟨hi, rfl⟩ := nums_get hi
              obtain ⟨a, ha, _, _⟩ := ev_at hc' (show i < es.length by omega)
              obtain ⟨b, hb, _, _⟩ := ev_at hc' (show i + 1 < es.length by omega)
              fail "w"
              refine rd_ixT (d := .tuple [a, .int ((timesOf es).getD i 0)]) ?_ ?_
              · rw [show (0 : Int) + (i : Int) = ((i : Nat) : Int) by omega]; exact atI_nat ha
              fail "w"
              refine rd_ixT (d := .tuple [b, .int ((timesOf es).getD (i + 1) 0)]) ?_ ?_
              · rw [show (0 : Int) + (i : Int) + 1 = ((i + 1 : Nat) : Int) by omega]; exact atI_nat hb
              fail "w"
              show PyData.bool _ = PyData.bool (decide _)
              rw [show ((0 : Int) + (i : Int)).toNat = i by omega]
            · fail "w"
              show PyData.bool _ = PyData.bool (isNum 1 g && (es.all isEv && nondec (timesOf es)))
              have e := nondec_le2 (timesOf es)
              rw [timesOf_len] at e
              rw [e, h1, hc']; rfl
        | _ =>
          fail "w"
          show PyData.bool false = PyData.bool (rowD (.tuple [g, _]))
          rfl
      · fail "w"
        show PyData.bool false = PyData.bool (rowD (.tuple [g, evs]))
        cases evs with
        | tuple es => show PyData.bool false = PyData.bool (isNum 1 g && _); rw [h1]; rfl
        | _ => rfl
end


theorem isLet_shape {a : PyData} (h : isLet a = true) : ∃ c, a = .str ⟨#[c]⟩ ∧ 97 ≤ c ∧ c ≤ 122 := by
  cases a with
  | str x =>
    obtain ⟨⟨l⟩⟩ := x
    match l, h with
    | [c], h =>
      have := of_decide_eq_true h
      exact ⟨c, rfl, this⟩
    | [], h => cases h
    | _ :: _ :: _, h => cases h
  | _ => cases h
/-- the time of the last event with the letter x -/
def stepT (x : Str) (r : Option Int) : PyData → Option Int
  | .tuple [.str a, .int t] => if a = x then some t else r
  | _ => r
def lastT (x : Str) (es : List PyData) (r : Option Int) : Option Int := es.foldl (stepT x) r
theorem lastT_snoc (x a : Str) (t : Int) (es : List PyData) (r : Option Int) : lastT x (es ++ [.tuple [.str a, .int t]]) r = if a = x then some t else lastT x es r := by
  unfold lastT
  rw [List.foldl_append]
  rfl
def t0 (x : Str) : Option Int := if x = "" then some 0 else none
def gapD (evs : List PyData) (i : Nat) (x : Str) : PyData := match lastT x (evs.take i) (t0 x) with
  | none => .none
  | some t => .int ((timesOf evs).getD i 0 - t)
theorem cut_take (evs : List PyData) {i : Nat} (h : i ≤ evs.length) : FD.cutD evs none (some (i : Int)) = evs.take i := by
  unfold FD.cutD
  rw [HT.sIx_none, HT.sIx_nat, List.drop_zero, Nat.min_eq_left h]
  rfl
theorem rowD_parts {g : PyData} {evs : List PyData} (h : rowD (.tuple [g, .tuple evs]) = true) : isNum 1 g = true ∧ evs.all isEv = true ∧ nondec (timesOf evs) = true := by
  have h' : (isNum 1 g && (evs.all isEv && nondec (timesOf evs))) = true := h
  simpa [Bool.and_eq_true] using h'
theorem str1_ne (c : Nat) : (⟨#[c]⟩ : Str) ≠ "" := by
  intro h
  have := congrArg Str.length h
  cases this
section
variable {P : Program} {w : World} {K : PySem.W.Frag} {mg : Str → Option Value} {base : Heap} {f : Addr} {fd : FuncData}
abbrev preR : List PyData → Prop := fun ds => ∃ d, ds = [d] ∧ sm d = true ∧ rowD d = true
theorem ok_chk (F : L2.Fun K "check_row" "check_row" sChk f fd) (bi : Bi mg) (c1 : Cal P w K mg base 3 "is_row" ["thing"] (spF 1 preD fRow)) :
    FnG P w K mg base 4 f fd ["row"] (spF 1 preR fun _ => .none) := by
  refine fnD F scsChk _ _ fun cdv A outer s H hg hr => ?_
  refine' ⟨_, ?h1, ?h2⟩
  case h1 =>
    have km : KMark K := ⟨⟩
    have nd : (["row"] : List Str).Nodup := by decide +kernel
    have : (["row"] : List Str)[0]? = some ("row" : Str) := rfl
    fail "fTop"
  case h2 =>
    rintro ds hl ⟨d, rfl, hd, hd2⟩
    try dsimp only [cxK, blkK]
    show EvS K _ [some (.dat d)] _
    fail "w"
    refine ⟨⟨_, rfl, hd⟩, rowD d, rfl, fun h => ?_, fun h => ?_⟩
    · rw [hd2] at h; cases h
    · fail "w"; rfl
abbrev preL : List PyData → Prop := fun ds => ∃ es, ds = [.tuple es] ∧ es.length ≤ 1000 ∧ es.all isEv = true
def postL : List PyData → PyData → Prop
  | [.tuple es], d => ∃ kvs, d = .dict kvs ∧ ∀ x, lkD x kvs = (lastT x es (t0 x)).map PyData.int
  | _, _ => False
theorem ok_last (F : L2.Fun K "last_times" "last_times" sLast f fd) (bi : Bi mg) :
    FnG P w K mg base 1 f fd ["events"] (spD 1 preL postL) := by
  refine fnD F scsLast _ _ fun cdv A outer s H hg hr => ?_
  refine' ⟨_, ?h1, ?h2⟩
  case h1 =>
    have km : KMark K := ⟨⟩
    have nd : (["events", "times", "letter", "time"] : List Str).Nodup := by decide +kernel
    have : (["events", "times", "letter", "time"] : List Str)[0]? = some ("events" : Str) := rfl
    have : (["events", "times", "letter", "time"] : List Str)[1]? = some ("times" : Str) := rfl
    have : (["events", "times", "letter", "time"] : List Str)[2]? = some ("letter" : Str) := rfl
    have : (["events", "times", "letter", "time"] : List Str)[3]? = some ("time" : Str) := rfl
    fail "fTop"
  case h2 =>
    rintro ds hl ⟨es, rfl, hn, he⟩
    try dsimp only [cxK, blkK]
    show EvS K _ [some (.dat (.tuple es)), none, none, none] _
    refine es_seq (es_odc fun p => ?_)
    refine es_seq (es_for (ei_tup (ev_var rfl ⟨_, rfl, ?_⟩)))
    refine ⟨fun i e => ∃ a b kvs, e = [some (.dat (.tuple es)), some (.odc p kvs), a, b] ∧ i ≤ es.length ∧ kvs.length ≤ i + 1 ∧ ∀ x, lkD x kvs = (lastT x (es.take i) (t0 x)).map PyData.int, ⟨none, none, _, rfl, Nat.zero_le _, Nat.le_refl _, fun x => ?_⟩, ?_, ?_⟩
    · show (if ("" : Str) = x then some (.int 0) else none) = (t0 x).map PyData.int
      unfold t0
      by_cases q : x = ""
      · subst q; rfl
      · rw [if_neg q, if_neg (fun z => q z.symm)]; rfl
    · rintro i d e hd ⟨a, b, kvs, rfl, hi, hk, hx⟩
      have lt : i < es.length := (List.getElem?_eq_some_iff.mp hd).1
      obtain ⟨l, h1, h2, _⟩ := ev_at he lt
      rw [hd] at h1
      cases h1
      obtain ⟨c, rfl, _, _⟩ := isLet_shape h2
      fail "w"
      refine es_dput (ds0 := kvs) rfl ?_
      fail "w"
      refine ⟨by omega, _, _, _, rfl, lt, Nat.le_trans (putD_length _ _ _) (by omega), fun x => ?_⟩
      rw [lkD_put, List.take_add_one, hd, hx]
      show _ = (lastT x (es.take i ++ [.tuple [.str ⟨#[c]⟩, .int ((timesOf es).getD i 0)]]) (t0 x)).map PyData.int
      rw [lastT_snoc]
      by_cases q : x = ⟨#[c]⟩
      · rw [if_pos q, if_pos q.symm]; rfl
      · rw [if_neg q, if_neg (fun z => q z.symm)]
    · rintro e ⟨a, b, kvs, rfl, _, _, hx⟩
      refine es_ret (ev_odc rfl ?_)
      rw [List.take_length] at hx
      exact ⟨kvs, rfl, hx⟩
abbrev preS : List PyData → Prop := fun ds => ∃ g evs, ∃ (i : Nat) (x : Str), ds = [.tuple [g, .tuple evs], .int i, .str x] ∧ sm (.tuple [g, .tuple evs]) = true ∧ rowD (.tuple [g, .tuple evs]) = true ∧ i < evs.length ∧ (x = "" ∨ isLet (.str x) = true)
def fSince : List PyData → PyData
  | [.tuple [_, .tuple evs], .int i, .str x] => gapD evs i.toNat x
  | _ => .none
theorem ok_since (F : L2.Fun K "since" "since" sSince f fd) (bi : Bi mg) (c1 : Cal P w K mg base 4 "check_row" ["row"] (spF 1 preR fun _ => .none)) (c2 : Cal P w K mg base 1 "is_number" ["thing", "least"] (spF 2 preN fNum))
    (c3 : Cal P w K mg base 1 "is_letter" ["thing"] (spF 1 preD fLet)) (c4 : Cal P w K mg base 1 "last_times" ["events"] (spD 1 preL postL)) :
    FnG P w K mg base 5 f fd ["row", "i", "x"] (spF 3 preS fSince) := by
  refine fnD F scsSince _ _ fun cdv A outer s H hg hr => ?_
  refine' ⟨_, ?h1, ?h2⟩
  case h1 =>
    have km : KMark K := ⟨⟩
    have nd : (["row", "i", "x", "events", "times"] : List Str).Nodup := by decide +kernel
    have : (["row", "i", "x", "events", "times"] : List Str)[0]? = some ("row" : Str) := rfl
    have : (["row", "i", "x", "events", "times"] : List Str)[1]? = some ("i" : Str) := rfl
    have : (["row", "i", "x", "events", "times"] : List Str)[2]? = some ("x" : Str) := rfl
    have : (["row", "i", "x", "events", "times"] : List Str)[3]? = some ("events" : Str) := rfl
    have : (["row", "i", "x", "events", "times"] : List Str)[4]? = some ("times" : Str) := rfl
    fail "fTop"
  case h2 =>
    rintro ds hl ⟨g, evs, i, x, rfl, hs, hd, hi, hx⟩
    try dsimp only [cxK, blkK]
    show EvS K _ [some (.dat (.tuple [g, .tuple evs])), some (.dat (.int i)), some (.dat (.str x)), none, none] _
    obtain ⟨hg1, hev, _⟩ := rowD_parts hd
    obtain ⟨sl, _⟩ := sm_tup (sm_two hs).2
    have key : ∀ kvs, (∀ y, lkD y kvs = (lastT y (evs.take i) (t0 y)).map PyData.int) → (lkD x kvs).isSome = false → PyData.none = fSince [.tuple [g, .tuple evs], .int i, .str x] := fun kvs hk h => by
      show PyData.none = gapD evs (i : Int).toNat x
      unfold gapD
      rw [Int.toNat_natCast]
      rw [hk] at h
      cases e : lastT x (evs.take i) (t0 x) with
      | none => rfl
      | some t => rw [e] at h; cases h
    have key2 : ∀ kvs, (∀ y, lkD y kvs = (lastT y (evs.take i) (t0 y)).map PyData.int) → (lkD x kvs).isSome = true → ∃ t, lkD x kvs = some (.int t) ∧ PyData.int ((timesOf evs).getD i 0 - t) = fSince [.tuple [g, .tuple evs], .int i, .str x] := fun kvs hk h => by
      show ∃ t, _ ∧ _ = gapD evs (i : Int).toNat x
      unfold gapD
      rw [Int.toNat_natCast]
      rw [hk] at h ⊢
      cases e : lastT x (evs.take i) (t0 x) with
      | none => rw [e] at h; cases h
      | some t => exact ⟨t, rfl, rfl⟩
    have sx : sm (.str x) = true := by
      rcases hx with rfl | hx
      · decide
      · obtain ⟨c, e, _⟩ := isLet_shape hx
        cases e; rfl
    fail "w"
    refine es_drop ?_
    fail "w"
    refine ⟨⟨_, rfl, hs, hd⟩, ?_⟩
    fail "w"
    refine ⟨⟨_, _, rfl⟩, true, (by show PyData.bool (decide ((0 : Int) ≤ (i : Int))) = PyData.bool true; rw [decide_eq_true (by omega)]), fun _ => ?_, fun h => by cases h⟩
    fail "w"
    · rename_i h
      exfalso
      simp at h
      omega
    refine ⟨⟨_, rfl, sx⟩, isLet (.str x), rfl, fun hL => ?_, fun hL => ?_⟩
    · have hx' : x = "" := by
        rcases hx with h | h
        · exact h
        · rw [h] at hL; cases hL
      subst hx'
      fail "w"
      refine ⟨⟨_, rfl, ?_, ?_⟩, ?_⟩
      · rw [cut_take evs (Nat.le_of_lt hi), List.length_take]; omega
      · rw [cut_take evs (Nat.le_of_lt hi)]; exact List.all_eq_true.mpr fun d hd => List.all_eq_true.mp hev d (List.mem_of_mem_take hd)
      rw [cut_take evs (Nat.le_of_lt hi)]
      rintro d ⟨kvs, rfl, hk⟩
      fail "w"
      · rename_i h
        exact key kvs hk (by simpa using h)
      · rename_i h
        obtain ⟨t, ht, hf⟩ := key2 kvs hk (by simpa using h)
        obtain ⟨a, ha, _, _⟩ := ev_at hev hi
        refine rd_ixT (atI_nat ha) ?_
        fail "w"
        refine ⟨_, _, _, rfl, rfl, ht, ?_⟩
        fail "w"
        exact hf
    · fail "w"
      refine ⟨⟨_, rfl, ?_, ?_⟩, ?_⟩
      · rw [cut_take evs (Nat.le_of_lt hi), List.length_take]; omega
      · rw [cut_take evs (Nat.le_of_lt hi)]; exact List.all_eq_true.mpr fun d hd => List.all_eq_true.mp hev d (List.mem_of_mem_take hd)
      rw [cut_take evs (Nat.le_of_lt hi)]
      rintro d ⟨kvs, rfl, hk⟩
      fail "w"
      · rename_i h
        exact key kvs hk (by simpa using h)
      · rename_i h
        obtain ⟨t, ht, hf⟩ := key2 kvs hk (by simpa using h)
        obtain ⟨a, ha, _, _⟩ := ev_at hev hi
        refine rd_ixT (atI_nat ha) ?_
        fail "w"
        refine ⟨_, _, _, rfl, rfl, ht, ?_⟩
        fail "w"
        exact hf
end


abbrev sMix : Stmt := tp 16
theorem scsMix : FnScope ["cell", "k", "number"] ["cell", "k"] (defScope sMix) := ⟨rfl, rfl, rfl, by decide +kernel, rfl, by decide +kernel, by decide +kernel⟩
abbrev sGap : Stmt := tp 22
theorem scsGap : FnScope ["events", "i", "x", "found", "a", "time"] ["events", "i", "x"] (defScope sGap) := ⟨rfl, rfl, rfl, by decide +kernel, rfl, by decide +kernel, by decide +kernel⟩
abbrev sRowL : Stmt := tp 25
theorem scsRowL : FnScope ["thing", "event", "i"] ["thing"] (defScope sRowL) := ⟨rfl, rfl, rfl, by decide +kernel, rfl, by decide +kernel, by decide +kernel⟩
/-! ### whether a thing is a row, by the law's own words -/
def fWhole : List PyData → PyData
  | [d] => .bool (isInt d)
  | _ => .none
abbrev preII : List PyData → Prop := fun ds => ∃ a b, ds = [.int a, .int b]
abbrev postI : List PyData → PyData → Prop := fun _ d => ∃ z, d = .int z
section
variable {P : Program} {w : World} {K : PySem.W.Frag} {mg : Str → Option Value} {base : Heap} {f : Addr} {fd : FuncData}
theorem ok_mix (F : L2.Fun K "_law_mixed" "_law_mixed" sMix f fd) (bi : Bi mg) : FnG P w K mg base 1 f fd ["cell", "k"] (spD 2 preII postI) := by
  refine fnD F scsMix _ _ fun cdv A outer s H hg hr => ?_
  refine' ⟨_, ?h1, ?h2⟩
  case h1 =>
    have km : KMark K := ⟨⟩
    have nd : (["cell", "k", "number"] : List Str).Nodup := by decide +kernel
    have : (["cell", "k", "number"] : List Str)[0]? = some ("cell" : Str) := rfl
    have : (["cell", "k", "number"] : List Str)[1]? = some ("k" : Str) := rfl
    have : (["cell", "k", "number"] : List Str)[2]? = some ("number" : Str) := rfl
    fail "fTop"
  case h2 =>
    rintro ds hl ⟨a, b, rfl⟩
    show EvS K _ [some (.dat (.int a)), some (.dat (.int b)), none] _
    fail "w"
    exact ⟨_, rfl⟩
theorem ok_whole (F : L2.Fun K "_law_whole" "_law_whole" sWhole f fd) (bi : Bi mg) : FnG P w K mg base 1 f fd ["thing"] (spF 1 (fun ds => ∃ d, ds = [d]) fWhole) := by
  refine fnD F scsWhole _ _ fun cdv A outer s H hg hr => ?_
  refine' ⟨_, ?h1, ?h2⟩
  case h1 =>
    have km : KMark K := ⟨⟩
    have nd : (["thing"] : List Str).Nodup := by decide +kernel
    have : (["thing"] : List Str)[0]? = some ("thing" : Str) := rfl
    fail "fTop"
  case h2 =>
    rintro ds hl ⟨d, rfl⟩
    show EvS K _ [some (.dat d)] _
    cases d
    all_goals (fail "w")
    all_goals rfl
theorem ok_from (F : L2.Fun K "_law_is_from" "_law_is_from" sFrom f fd) (bi : Bi mg) (c1 : Cal P w K mg base 1 "_law_whole" ["thing"] (spF 1 (fun ds => ∃ d, ds = [d]) fWhole)) :
    FnG P w K mg base 2 f fd ["thing", "low"] (spF 2 preN fNum) := by
  refine fnD F scsFrom _ _ fun cdv A outer s H hg hr => ?_
  refine' ⟨_, ?h1, ?h2⟩
  case h1 =>
    have km : KMark K := ⟨⟩
    have nd : (["thing", "low"] : List Str).Nodup := by decide +kernel
    have : (["thing", "low"] : List Str)[0]? = some ("thing" : Str) := rfl
    have : (["thing", "low"] : List Str)[1]? = some ("low" : Str) := rfl
    fail "fTop"
  case h2 =>
    rintro ds hl ⟨d, j, rfl⟩
    show EvS K _ [some (.dat d), some (.dat (.int j))] _
    fail "w"
    refine ⟨⟨_, rfl⟩, isInt d, rfl, fun h => ?_, fun h => ?_⟩
    · cases d with
      | int i => fail "w"; rfl
      | _ => cases h
    · cases d with
      | int i => cases h
      | _ => rfl
theorem ok_letL (F : L2.Fun K "_law_is_letter" "_law_is_letter" sLetL f fd) (bi : Bi mg) : FnG P w K mg base 1 f fd ["thing"] (spF 1 preD fLet) := by
  refine fnD F scsLetL _ _ fun cdv A outer s H hg hr => ?_
  refine' ⟨_, ?h1, ?h2⟩
  case h1 =>
    have km : KMark K := ⟨⟩
    have nd : (["thing"] : List Str).Nodup := by decide +kernel
    have : (["thing"] : List Str)[0]? = some ("thing" : Str) := rfl
    fail "fTop"
  case h2 =>
    rintro ds hl ⟨d, rfl, hd⟩
    show EvS K _ [some (.dat d)] _
    cases d
    case str x =>
      fail "w"
      refine rc_lenS (sm_str hd) ?_
      fail "w"
      · rename_i h
        obtain ⟨c, rfl⟩ := str_one x (len_one h)
        show PyData.bool (!_) = PyData.bool (decide (97 ≤ c ∧ c ≤ 122))
        rw [← let_in]
      · rename_i h
        show PyData.bool false = PyData.bool (isLet (.str x))
        rw [isLet_len (len_not h)]
    all_goals (fail "w")
    all_goals rfl
abbrev preG : List PyData → Prop := fun ds => ∃ evs, ∃ (i : Nat) (x : Str), ds = [.tuple evs, .int i, .str x] ∧ evs.all isEv = true ∧ i < evs.length ∧ evs.length ≤ 1000 ∧ (x = "" ∨ isLet (.str x) = true)
def gapAt (evs : List PyData) (i : Nat) : Option Int → PyData
  | none => .none
  | some t => .int ((timesOf evs).getD i 0 - t)
def fGap : List PyData → PyData
  | [.tuple evs, .int i, .str x] => gapD evs i.toNat x
  | _ => .none
theorem lastT_empty : ∀ (es : List PyData) (h : es.all isEv = true) (r : Option Int), lastT "" es r = r
  | [], _, r => rfl
  | e :: es, h, r => by
    rw [List.all_cons, Bool.and_eq_true] at h
    obtain ⟨a, t, rfl, ha, _⟩ := isEv_shape h.1
    obtain ⟨c, rfl, _, _⟩ := isLet_shape ha
    show lastT "" es (if (⟨#[c]⟩ : Str) = "" then some t else r) = r
    rw [if_neg (str1_ne c)]
    exact lastT_empty es h.2 r
theorem eqOk_let {a : PyData} (h : isLet a = true) : eqOk a = true := by
  obtain ⟨c, rfl, h1, h2⟩ := isLet_shape h
  show (true && (PyData.strOk ⟨#[c]⟩ && true)) = true
  have : PyData.strOk ⟨#[c]⟩ = true := by
    show (#[c]).all (· < 0x110000) = true
    simp
    omega
  rw [this]; rfl
theorem all_take {es : List PyData} (h : es.all isEv = true) (i : Nat) : (es.take i).all isEv = true := List.all_eq_true.mpr fun d hd => List.all_eq_true.mp h d (List.mem_of_mem_take hd)
theorem ok_gap (F : L2.Fun K "_law_gap" "_law_gap" sGap f fd) (bi : Bi mg) : FnG P w K mg base 1 f fd ["events", "i", "x"] (spF 3 preG fGap) := by
  refine fnD F scsGap _ _ fun cdv A outer s H hg hr => ?_
  refine' ⟨_, ?h1, ?h2⟩
  case h1 =>
    have km : KMark K := ⟨⟩
    have nd : (["events", "i", "x", "found", "a", "time"] : List Str).Nodup := by decide +kernel
    have : (["events", "i", "x", "found", "a", "time"] : List Str)[0]? = some ("events" : Str) := rfl
    have : (["events", "i", "x", "found", "a", "time"] : List Str)[1]? = some ("i" : Str) := rfl
    have : (["events", "i", "x", "found", "a", "time"] : List Str)[2]? = some ("x" : Str) := rfl
    have : (["events", "i", "x", "found", "a", "time"] : List Str)[3]? = some ("found" : Str) := rfl
    have : (["events", "i", "x", "found", "a", "time"] : List Str)[4]? = some ("a" : Str) := rfl
    have : (["events", "i", "x", "found", "a", "time"] : List Str)[5]? = some ("time" : Str) := rfl
    fail "fTop"
  case h2 =>
    rintro ds hl ⟨evs, i, x, rfl, hev, hi, hn, hx⟩
    show EvS K _ [some (.dat (.tuple evs)), some (.dat (.int i)), some (.dat (.str x)), none, none, none] _
    obtain ⟨a0, ha0, _, _⟩ := ev_at hev hi
    have ex : eqOk (.str x) = true := by
      rcases hx with rfl | hx
      · decide +kernel
      · exact eqOk_let hx
    fail "w"
    · rename_i hc
      have hx' : x = "" := eq_of_beq (show (x == "") = true from hc)
      subst hx'
      refine rd_ixT (atI_nat ha0) ?_
      fail "w"
      show PyData.int _ = gapD evs (i : Int).toNat ""
      unfold gapD
      rw [Int.toNat_natCast, lastT_empty _ (all_take hev i)]
      show PyData.int _ = PyData.int (_ - 0)
      rw [Int.sub_zero]
    · rename_i hc
      have hx' : x ≠ "" := fun z => by
        subst z
        have : (("" : Str) == "") = false := hc
        exact absurd this (by decide)
      refine es_for (ei_tup ?_)
      · refine ev_sl ?_
        fail "v1"
        refine eo_none ?_
        refine eo_some ?_
        fail "v1"
        refine ⟨_, rfl, rs_tup ⟨_, rfl, ?_⟩⟩
        rw [cut_take evs (Nat.le_of_lt hi)]
        refine ⟨fun m e => ∃ a b, e = [some (.dat (.tuple evs)), some (.dat (.int i)), some (.dat (.str x)), some (.dat (gapAt evs i (lastT x ((evs.take i).take m) none))), a, b] ∧ m ≤ i, ⟨none, none, rfl, Nat.zero_le _⟩, ?_, ?_⟩
        · rintro m d e hd ⟨a, b, rfl, hm⟩
          have lt : m < (evs.take i).length := (List.getElem?_eq_some_iff.mp hd).1
          rw [List.length_take] at lt
          have hd' : evs[m]? = some d := by rw [List.getElem?_take_of_lt (by omega)] at hd; exact hd
          obtain ⟨l, h1, h2, _⟩ := ev_at hev (show m < evs.length by omega)
          rw [hd'] at h1
          cases h1
          obtain ⟨c, rfl, _, _⟩ := isLet_shape h2
          have el := eqOk_let h2
          have st := lastT_snoc x ⟨#[c]⟩ ((timesOf evs).getD m 0) ((evs.take i).take m) none
          have tk : (evs.take i).take (m + 1) = (evs.take i).take m ++ [.tuple [.str ⟨#[c]⟩, .int ((timesOf evs).getD m 0)]] := by
            rw [List.take_add_one, hd]; rfl
          fail "w"
          · rename_i hq
            have hq' : (⟨#[c]⟩ : Str) = x := eq_of_beq (show ((⟨#[c]⟩ : Str) == x) = true from hq)
            refine rd_ixT (atI_nat ha0) ?_
            fail "w"
            refine ⟨some (.dat (.str ⟨#[c]⟩)), some (.dat (.int ((timesOf evs).getD m 0))), ?_, by omega⟩
            rw [tk, st, if_pos hq']
            rfl
          · rename_i hq
            have hq' : ¬ (⟨#[c]⟩ : Str) = x := fun z => by
              subst z
              have : ((⟨#[c]⟩ : Str) == ⟨#[c]⟩) = false := hq
              rw [beq_self_eq_true] at this
              cases this
            refine ⟨some (.dat (.str ⟨#[c]⟩)), some (.dat (.int ((timesOf evs).getD m 0))), ?_, by omega⟩
            rw [tk, st, if_neg hq']
            rfl
        · rintro e ⟨a, b, rfl, _⟩
          fail "w"
          show gapAt evs i _ = gapD evs (i : Int).toNat x
          rw [List.take_length, Int.toNat_natCast]
          unfold gapD t0
          rw [if_neg hx']
          rfl
def gt2 (ts : List Int) : PyData → Bool
  | .int k => decide (ts.getD k.toNat 0 < ts.getD (k - 1).toNat 0)
  | _ => false
theorem nondec_gt2 (ts : List Int) : (nums 1 ((ts.length : Int) - 1).toNat).all (fun d => !gt2 ts d) = nondec ts := by
  have e : ((ts.length : Int) - 1).toNat = ts.length - 1 := by omega
  unfold nums nondec
  rw [e, List.all_map]
  congr 1
  funext i
  show (!decide (ts.getD (1 + (i : Int)).toNat 0 < ts.getD (1 + (i : Int) - 1).toNat 0)) = decide _
  have e1 : (1 + (i : Int)).toNat = i + 1 := by omega
  have e2 : (1 + (i : Int) - 1).toNat = i := by omega
  rw [e1, e2]
  by_cases q : ts.getD i 0 ≤ ts.getD (i + 1) 0
  · rw [decide_eq_true q, decide_eq_false (by omega)]; rfl
  · rw [decide_eq_false q, decide_eq_true (by omega)]; rfl
theorem eqv_nil (l : List PyData) : PyData.eqv (.list l) (.list []) = l.isEmpty := by cases l <;> rfl
theorem filter_nil (p : PyData → Bool) (l : List PyData) : (l.filter p).isEmpty = l.all (fun d => !p d) := by
  induction l with
  | nil => rfl
  | cons d l ih =>
    rw [List.filter_cons, List.all_cons]
    cases h : p d
    · rw [if_neg Bool.false_ne_true, ih]; rfl
    · rw [if_pos rfl]; rfl
/-- a list of small flat things may be compared -/
def flatD : PyData → Bool
  | .none => true
  | .bool _ => true
  | .int _ => true
  | _ => false
theorem flat_all : ∀ {l : List PyData}, l.all flatD = true → noDictAll l = true ∧ PyData.canLayAll0 l = true ∧ PyData.depthAll l = 0
  | [], _ => ⟨rfl, rfl, rfl⟩
  | d :: l, h => by
    rw [List.all_cons, Bool.and_eq_true] at h
    obtain ⟨a, b, c⟩ := flat_all h.2
    have hd : noDict d = true ∧ PyData.canLay0 d = true ∧ PyData.depth d = 0 := by
      cases d with
      | none => exact ⟨rfl, rfl, rfl⟩
      | bool _ => exact ⟨rfl, rfl, rfl⟩
      | int _ => exact ⟨rfl, rfl, rfl⟩
      | _ => exact absurd h.1 (by simp [flatD])
    refine ⟨?_, ?_, ?_⟩
    · show (noDict d && noDictAll l) = true
      rw [hd.1, a]; rfl
    · show (PyData.canLay0 d && PyData.canLayAll0 l) = true
      rw [hd.2.1, b]; rfl
    · show max (PyData.depth d) (PyData.depthAll l) = 0
      rw [hd.2.2, c]; rfl
theorem eqOk_flat {l : List PyData} (h : l.all flatD = true) : eqOk (.list l) = true := by
  obtain ⟨a, b, c⟩ := flat_all h
  show (noDictAll l && (PyData.canLayAll0 l && decide (PyData.depthAll l + 1 ≤ 64))) = true
  rw [a, b, c]; rfl
theorem nums_flat (p : PyData → Bool) (lo : Int) (n : Nat) : ((nums lo n).filter p).all flatD = true := List.all_eq_true.mpr fun d hd => by
  obtain ⟨i, hi⟩ := List.getElem?_of_mem (List.mem_filter.mp hd).1
  obtain ⟨_, rfl⟩ := nums_get hi
  rfl
theorem ok_rowL (F : L2.Fun K "_law_is_row" "_law_is_row" sRowL f fd) (bi : Bi mg) (c1 : Cal P w K mg base 2 "_law_is_from" ["thing", "low"] (spF 2 preN fNum)) (c2 : Cal P w K mg base 1 "_law_is_letter" ["thing"] (spF 1 preD fLet)) :
    FnG P w K mg base 3 f fd ["thing"] (spF 1 preD fRow) := by
  refine fnD F scsRowL _ _ fun cdv A outer s H hg hr => ?_
  refine' ⟨_, ?h1, ?h2⟩
  case h1 =>
    have km : KMark K := ⟨⟩
    have nd : (["thing", "event", "i"] : List Str).Nodup := by decide +kernel
    have : (["thing", "event", "i"] : List Str)[0]? = some ("thing" : Str) := rfl
    have : (["thing", "event", "i"] : List Str)[1]? = some ("event" : Str) := rfl
    have : (["thing", "event", "i"] : List Str)[2]? = some ("i" : Str) := rfl
    fail "fTop"
  case h2 =>
    rintro ds hl ⟨d, rfl, hd⟩
    show EvS K _ [some (.dat d), none, none] _
    by_cases hT : isTup 2 d = true
    · obtain ⟨g, e0, rfl⟩ := isTup2 hT
      obtain ⟨sg, se⟩ := sm_two hd
      fail "w"
      refine ⟨⟨_, _, rfl⟩, isNum 1 g, rfl, ?_⟩
      cases hG : isNum 1 g
      · fail "w"
        show PyData.bool false = PyData.bool (rowD (.tuple [g, e0]))
        cases e0 with
        | tuple es => show PyData.bool false = PyData.bool (isNum 1 g && _); rw [hG]; rfl
        | _ => rfl
      · cases e0 with
        | tuple es =>
          obtain ⟨sl, sa⟩ := sm_tup se
          fail "w"
          have hfalse : ∀ d, d ∈ es → isEv d = false → PyData.bool false = fRow [.tuple [g, .tuple es]] := fun d hd h => by
            show _ = PyData.bool (isNum 1 g && (es.all isEv && nondec (timesOf es)))
            have : es.all isEv = false := by
              cases q : es.all isEv
              · rfl
              · rw [List.all_eq_true.mp q d hd] at h; cases h
            rw [this, Bool.false_and, Bool.and_false]
          refine es_for (ei_tup (ev_op (ev_var rfl (ev_int (rd_ixT (d := .tuple es) rfl ⟨_, rfl, ?_⟩)))))
          refine ⟨fun m e => ∃ a, e = [some (.dat (.tuple [g, .tuple es])), a, none] ∧ m ≤ es.length ∧ (es.take m).all isEv = true, ⟨none, rfl, Nat.zero_le _, rfl⟩, ?_, ?_⟩
          · rintro m d e hd ⟨a, rfl, hm, hp⟩
            have lt : m < es.length := (List.getElem?_eq_some_iff.mp hd).1
            have mem := List.mem_of_getElem? hd
            have sd := smA_mem sa mem
            by_cases hE : isTup 2 d = true
            · obtain ⟨x, y, rfl⟩ := isTup2 hE
              obtain ⟨sx, sy⟩ := sm_two sd
              fail "w"
              refine ⟨⟨_, rfl, sx⟩, isLet x, rfl, ?_⟩
              cases hA : isLet x
              · fail "w"
                exact hfalse _ mem (by show (isLet x && _) = false; rw [hA]; rfl)
              · fail "w"
                refine ⟨⟨_, _, rfl⟩, isNum 0 y, rfl, ?_⟩
                cases hB : isNum 0 y
                · fail "w"
                  exact hfalse _ mem (by show (isLet x && isNum 0 y) = false; rw [hA, hB]; rfl)
                · fail "w"
                  refine ⟨lt, ?_⟩
                  rw [List.take_add_one, hd, List.all_append, hp]
                  show (true && ((isLet x && isNum 0 y) && true)) = true
                  rw [hA, hB]; rfl
            · have hE' : isTup 2 d = false := by simpa using hE
              have hN := hfalse d mem (isEv_not hE')
              cases d with
              | tuple zs =>
                fail "w"
                all_goals (rename_i hc; first | exact hN | (exfalso; have hc' : (!isTup 2 (.tuple zs)) = false := hc; rw [hE'] at hc'; cases hc'))
              | _ => fail "w"; exact hN
          · rintro e ⟨a, rfl, _, hp⟩
            rw [List.take_length] at hp
            fail "v1"
            fail "v1"
            refine ev_filter (gt2 (timesOf es)) (ei_rng2 ?_)
            fail "w"
            refine ⟨_, _, rfl, by omega, ?_, (by show 2 < 3; decide), ?_, ?_⟩
            · rw [nums_length]; omega
            · intro d hd
              obtain ⟨i, hi⟩ := List.getElem?_of_mem hd
              obtain ⟨hi, rfl⟩ := nums_get hi
              obtain ⟨b, hb, _, _⟩ := ev_at hp (show i < es.length by omega)
              obtain ⟨b2, hb2, _, _⟩ := ev_at hp (show i + 1 < es.length by omega)
              fail "w"
              refine rd_ixT (d := .tuple [b, .int ((timesOf es).getD i 0)]) ?_ ?_
              · rw [show (1 : Int) + (i : Int) - 1 = ((i : Nat) : Int) by omega]; exact atI_nat hb
              fail "w"
              refine rd_ixT (d := .tuple [b2, .int ((timesOf es).getD (i + 1) 0)]) ?_ ?_
              · rw [show (1 : Int) + (i : Int) = ((i + 1 : Nat) : Int) by omega]; exact atI_nat hb2
              fail "w"
              show decide _ = decide _
              rw [show ((1 : Int) + (i : Int)).toNat = i + 1 by omega, show ((1 : Int) + (i : Int) - 1).toNat = i by omega]
            · fail "v1"
              fail "v1"
              refine ⟨by decide, ?_⟩
              refine rd_eqA (eqOk_flat (nums_flat _ _ _)) (by decide +kernel) ?_
              show PyData.bool _ = PyData.bool (isNum 1 g && (es.all isEv && nondec (timesOf es)))
              have e := nondec_gt2 (timesOf es)
              rw [timesOf_len] at e
              rw [eqv_nil, filter_nil, e, hG, hp]; rfl
        | _ => fail "w"; rfl
    · have hT' : isTup 2 d = false := by simpa using hT
      cases d with
      | tuple ds =>
        fail "w"
        all_goals (rename_i hc; first | (show PyData.bool false = PyData.bool (rowD (.tuple ds)); rw [rowD_not hT']) | (exfalso; have hc' : (!isTup 2 (.tuple ds)) = false := hc; rw [hT'] at hc'; cases hc'))
      | _ => fail "w"; rfl
end


abbrev sPile : Stmt := tp 17
theorem scsPile : FnScope ["script", "k", "cell", "found", "j"] ["script", "k"] (defScope sPile) := ⟨rfl, rfl, rfl, by decide +kernel, rfl, by decide +kernel, by decide +kernel⟩
abbrev sTake : Stmt := tp 18
theorem scsTake : FnScope ["pile", "size", "j", "digit"] ["pile", "size"] (defScope sTake) := ⟨rfl, rfl, rfl, by decide +kernel, rfl, by decide +kernel, by decide +kernel⟩
abbrev sLtrs : Stmt := tp 20
theorem scsLtrs : FnScope ["pile"] ["pile"] (defScope sLtrs) := ⟨rfl, rfl, rfl, by decide +kernel, rfl, by decide +kernel, by decide +kernel⟩
abbrev sMkRow : Stmt := tp 21
theorem scsMkRow : FnScope ["pile", "letters", "m", "size", "grain", "events", "now", "j", "way"] ["pile", "letters", "m", "size"] (defScope sMkRow) := ⟨rfl, rfl, rfl, by decide +kernel, rfl, by decide +kernel, by decide +kernel⟩
abbrev preT : List PyData → Prop := fun ds => ∃ n : Int, ds = [.int n] ∧ 1 ≤ n ∧ n ≤ 1000
abbrev postT : List PyData → PyData → Prop := fun ds d => ∃ n z : Int, ds = [.int n] ∧ d = .int z ∧ 0 ≤ z ∧ z < n
section
variable {P : Program} {w : World} {K : PySem.W.Frag} {mg : Str → Option Value} {base : Heap} {f : Addr} {fd : FuncData}
theorem ok_take (F : L2.Fun K "_law_take" "_law_take" sTake f fd) (bi : Bi mg) (c1 : Cal P w K mg base 1 "_law_mixed" ["cell", "k"] (spD 2 preII postI)) :
    FnG P w K mg base 2 f fd ["pile", "size"] (spP 1 preT postT) := by
  refine fnP F scsTake (by simp) _ _ fun cdv A outer s H hg hr => ?_
  refine' ⟨_, ?h1, ?h2⟩
  case h1 =>
    have km : KMark K := ⟨⟩
    have nd : (["pile", "size", "j", "digit"] : List Str).Nodup := by decide +kernel
    have : (["pile", "size", "j", "digit"] : List Str)[0]? = some ("pile" : Str) := rfl
    have : (["pile", "size", "j", "digit"] : List Str)[1]? = some ("size" : Str) := rfl
    have : (["pile", "size", "j", "digit"] : List Str)[2]? = some ("j" : Str) := rfl
    have : (["pile", "size", "j", "digit"] : List Str)[3]? = some ("digit" : Str) := rfl
    fail "fTop"
  case h2 =>
    rintro p ds hl ⟨n, rfl, h1, h2⟩
    show EvS K _ [some (.pile p), some (.dat (.int n)), none, none] _
    fail "w"
    refine ⟨by decide, fun z => ?_⟩
    fail "v1"
    have nz : n ≠ 0 := by omega
    have n30 : CDivN n n := ⟨nz, by omega⟩
    have fin : ∀ a : Option Sl, EvS K (tSeq (tAsg (tOp rMod (tCB rInt (tCons (tOp (rIx K) (tVar 0) (tC (V.int 0))) tNil)) (tVar 1)) (gName 3))
        (tSeq (tAsg (tOp rOver (tOp (rIx K) (tVar 0) (tC (V.int 0))) (tVar 1)) (gSub (tVar 0) (tC (V.int 0)) rSetL)) (tRet (tVar 3))))
        [some (.pile p), some (.dat (.int n)), a, none] { nx := fun _ => False, rt := fun e d => e[0]? = some (some (.pile p)) ∧ postT [.int n] d } := fun a => by
      fail "w"
      refine ⟨by decide, fun y => ?_⟩
      fail "w"
      refine rd_modI nz ?_
      fail "w"
      refine ⟨by decide, fun y2 => ?_⟩
      fail "w"
      refine rd_overI ⟨nz, by omega⟩ ?_
      refine ⟨⟨_, rfl⟩, ⟨p, rfl⟩, ?_⟩
      fail "w"
      refine ⟨⟨0, rfl, by decide⟩, ?_⟩
      fail "w"
      exact ⟨Int.fmod_nonneg_of_pos _ (by omega), Int.fmod_lt_of_pos _ (by omega)⟩
    refine rd_eqA (by rfl) (by rfl) ⟨_, rfl, fun _ => ?_, fun _ => es_next (fin none)⟩
    fail "w"
    refine ⟨by decide, fun y => ?_⟩
    fail "w"
    refine ⟨⟨_, rfl⟩, ⟨p, rfl⟩, ?_⟩
    fail "w"
    refine ⟨⟨2, rfl, by decide⟩, ?_⟩
    refine es_for (ei_rng1 (ea_cons (ev_int (ea_nil ⟨_, rfl, by decide, ?_⟩))))
    refine ⟨fun m e => ∃ a, e = [some (.pile p), some (.dat (.int n)), a, none], ⟨none, rfl⟩, ?_, ?_⟩
    · rintro m d e hd ⟨a, rfl⟩
      obtain ⟨hm, rfl⟩ := nums_get hd
      fail "w"
      refine ⟨by decide, fun y => ?_⟩
      fail "w"
      refine ⟨by decide, fun y2 => ?_⟩
      fail "w"
      refine ⟨by decide, fun y3 => ?_⟩
      fail "w"
      have hm' : m < 6 := hm
      refine rd_timesI (.inl ⟨by omega, by omega⟩) ?_
      fail "w"
      refine ⟨⟨_, _, rfl⟩, ?_⟩
      rintro d ⟨z2, rfl⟩
      fail "w"
      refine ⟨⟨_, rfl⟩, ⟨p, rfl⟩, ?_⟩
      fail "w"
      exact ⟨⟨0, rfl, by decide⟩, _, rfl⟩
    · rintro e ⟨a, rfl⟩
      exact fin a
theorem ok_pile (F : L2.Fun K "_law_pile" "_law_pile" sPile f fd) (bi : Bi mg) (c1 : Cal P w K mg base 1 "_law_mixed" ["cell", "k"] (spD 2 preII postI)) :
    FnG P w K mg base 2 f fd ["script", "k"] (spN K) := by
  refine fnN F scsPile rfl fun cdv A outer s H hg hr => ?_
  refine' ⟨_, ?h1, ?h2⟩
  case h1 =>
    have km : KMark K := ⟨⟩
    have nd : (["script", "k", "cell", "found", "j"] : List Str).Nodup := by decide +kernel
    have : (["script", "k", "cell", "found", "j"] : List Str)[0]? = some ("script" : Str) := rfl
    have : (["script", "k", "cell", "found", "j"] : List Str)[1]? = some ("k" : Str) := rfl
    have : (["script", "k", "cell", "found", "j"] : List Str)[2]? = some ("cell" : Str) := rfl
    have : (["script", "k", "cell", "found", "j"] : List Str)[3]? = some ("found" : Str) := rfl
    have : (["script", "k", "cell", "found", "j"] : List Str)[4]? = some ("j" : Str) := rfl
    fail "fTop"
  case h2 =>
    rintro p ns k hl hk
    have p18 : CPow 10 18 := ⟨by decide, by decide, by decide +kernel⟩
    have p60 : CPow 10 60 := ⟨by decide, by decide, by decide +kernel⟩
    have fin : ∀ c : Int, EvS K (tSeq (tIfS (tTest (tOp rGe (tVar 2) (tOp rPow (tC (V.int 10)) (tC (V.int 18)))))
        (tRet (tLst (tCons (tOp rMod (tCB rInt (tCons (tOp rMinus (tVar 2) (tOp rPow (tC (V.int 10)) (tC (V.int 18)))) tNil))
          (tOp (rTimes K) (tOp (rTimes K) (tOp (rTimes K) (tOp rPow (tC (V.int 10)) (tC (V.int 60))) (tOp rPow (tC (V.int 10)) (tC (V.int 60)))) (tOp rPow (tC (V.int 10)) (tC (V.int 60)))) (tOp rPow (tC (V.int 10)) (tC (V.int 60)))))
          (tCons (tOp rMod (tCB rInt (tCons (tVar 2) tNil)) (tC (V.int 2147483647))) (tCons (tVar 1) tNil))))) tNext)
        (tSeq (tAsg (tC (V.int 0)) (gName 3)) (tSeq (tFor (iRng1 (tCons (tC (V.int 24)) tNil)) (gName 4)
          (tAsg (tOp (rPlus K) (tOp (rTimes K) (tVar 3) (tC (V.int 2147483579))) (tCB (callOf (spD 2 preII postI)) (tCons (tVar 2) (tCons (tOp (rPlus K) (tOp (rPlus K) (tOp (rTimes K) (tC (V.int 7)) (tVar 1)) (tOp (rTimes K) (tC (V.int 100)) (tVar 4))) (tOp (rTimes K) (tVar 4) (tVar 4))) tNil)))) (gName 3)))
          (tRet (tLst (tCons (tVar 3) (tCons (tOp rMod (tCB rInt (tCons (tVar 2) tNil)) (tC (V.int 2147483647))) (tCons (tVar 1) tNil))))))))
        [some (.script p ns), some (.dat (.int k)), some (.dat (.int c)), none, none] { nx := fun _ => False, rn := fun _ => True } := fun c => by
      refine es_seq (es_if ?_)
      fail "w"
      refine rd_pow p18 (rd_ge ⟨_, rfl, fun _ => ?_, fun _ => es_next ?_⟩)
      · refine es_retN ?_
        fail "w"
        refine rd_pow p18 ?_
        fail "w"
        refine rd_pow p60 ?_
        fail "w"
        refine rd_pow p60 ?_
        refine rd_timesW (by show _ < _; decide +kernel) ?_
        fail "w"
        refine rd_pow p60 ?_
        refine rd_timesW (by show _ < _; decide +kernel) ?_
        fail "w"
        refine rd_pow p60 ?_
        refine rd_timesW (by show _ < _; decide +kernel) ?_
        refine rd_modI (by decide +kernel) ?_
        fail "w"
        exact ⟨⟨_, _, _, rfl⟩, trivial⟩
      · refine es_seq (es_asg (ev_int (eg_name (es_seq ?_))))
        refine es_for (ei_rng1 (ea_cons (ev_int (ea_nil ⟨_, rfl, by decide, ?_⟩))))
        refine ⟨fun m e => ∃ z a, e = [some (.script p ns), some (.dat (.int k)), some (.dat (.int c)), some (.dat (.int z)), a], ⟨0, none, rfl⟩, ?_, ?_⟩
        · rintro m d e hd ⟨z, a, rfl⟩
          obtain ⟨hm, rfl⟩ := nums_get hd
          fail "w"
          have hm' : m < 24 := hm
          refine rd_timesI (.inl ⟨by omega, by omega⟩) ?_
          fail "w"
          refine ⟨⟨_, _, rfl⟩, ?_⟩
          rintro d ⟨z2, rfl⟩
          fail "w"
          exact ⟨_, _, rfl⟩
        · rintro e ⟨z, a, rfl⟩
          refine es_retN ?_
          fail "w"
          exact ⟨⟨_, _, _, rfl⟩, trivial⟩
    show EvS K _ [some (.script p ns), some (.dat (.int k)), none, none, none] _
    fail "v1"
    fail "v1"
    fail "v1"
    fail "v1"
    fail "v1"
    refine ⟨⟨_, rfl⟩, fun z => ?_⟩
    fail "v1"
    fail "v2"
    fail "v1"
    fail "v1"
    refine es_if ?_
    fail "v1"
    fail "v1"
    fail "v1"
    fail "v1"
    refine rd_lt ⟨_, rfl, fun hc => ?_, fun hc => es_next (fin _)⟩
    have hc' : k < ns.length := of_decide_eq_true hc
    fail "v1"
    fail "v1"
    fail "v1"
    obtain ⟨j, rfl⟩ : ∃ j : Nat, k = (j : Int) := ⟨k.toNat, by omega⟩
    have hj : j < ns.length := by omega
    exact ⟨j, ns[j], rfl, atI_nat (List.getElem?_eq_getElem hj), eg_name (fin _)⟩
theorem ok_ltrs (F : L2.Fun K "_law_letters" "_law_letters" sLtrs f fd) (bi : Bi mg) (c1 : Cal P w K mg base 2 "_law_take" ["pile", "size"] (spP 1 preT postT)) :
    FnG P w K mg base 3 f fd ["pile"] (spP 0 (fun ds => ds = []) fun _ d => d = .str "a" ∨ d = .str "ab") := by
  refine fnP F scsLtrs (by simp) _ _ fun cdv A outer s H hg hr => ?_
  refine' ⟨_, ?h1, ?h2⟩
  case h1 =>
    have km : KMark K := ⟨⟩
    have nd : (["pile"] : List Str).Nodup := by decide +kernel
    have : (["pile"] : List Str)[0]? = some ("pile" : Str) := rfl
    fail "fTop"
  case h2 =>
    rintro p ds hl rfl
    show EvS K _ [some (.pile p)] _
    fail "w"
    refine ⟨by decide, ?_⟩
    fail "w"
    refine ⟨⟨4, rfl, by decide, by decide⟩, ?_⟩
    rintro d ⟨n, z, e, rfl, z0, z1⟩
    cases e
    have : z = 0 ∨ z = 1 ∨ z = 2 ∨ z = 3 := by omega
    rcases this with rfl | rfl | rfl | rfl
    · exact rd_ixL (d := .str "a") rfl ⟨rfl, .inl rfl⟩
    · exact rd_ixL (d := .str "ab") rfl ⟨rfl, .inr rfl⟩
    · exact rd_ixL (d := .str "ab") rfl ⟨rfl, .inr rfl⟩
    · exact rd_ixL (d := .str "ab") rfl ⟨rfl, .inr rfl⟩
/-- an event of a made row, not later than b -/
def EvM (b : Int) (e : PyData) : Prop := ∃ (c : Nat) (t : Int), e = .tuple [.str ⟨#[c]⟩, .int t] ∧ (c = 97 ∨ c = 98) ∧ 0 ≤ t ∧ t ≤ b
def RowM (d : PyData) : Prop := ∃ (g : Int) (evs : List PyData), d = .tuple [.int g, .tuple evs] ∧ 1 ≤ g ∧ g ≤ 4 ∧ evs.length ≤ 8 ∧ (∀ e, e ∈ evs → EvM 1000 e) ∧ nondec (timesOf evs) = true
theorem nondec_snoc {evs : List PyData} {a : PyData} {t : Int} (h : nondec (timesOf evs) = true) (hb : ∀ e, e ∈ evs → ∃ (x : PyData) (u : Int), e = .tuple [x, .int u] ∧ u ≤ t) : nondec (timesOf (evs ++ [.tuple [a, .int t]])) = true := by
  have e1 : timesOf (evs ++ [.tuple [a, .int t]]) = timesOf evs ++ [t] := by unfold timesOf; rw [List.map_append]; rfl
  rw [e1]
  unfold nondec at h ⊢
  rw [List.all_eq_true] at h ⊢
  intro i hi
  rw [List.mem_range, List.length_append] at hi
  have hi' : i < (timesOf evs).length := by simp at hi; exact hi
  have hl := timesOf_len evs
  have g1 : (timesOf evs ++ [t]).getD i 0 = (timesOf evs).getD i 0 := by
    rw [List.getD_eq_getElem?_getD, List.getD_eq_getElem?_getD, List.getElem?_append_left hi']
  rw [g1]
  by_cases q : i + 1 < (timesOf evs).length
  · have g2 : (timesOf evs ++ [t]).getD (i + 1) 0 = (timesOf evs).getD (i + 1) 0 := by
      rw [List.getD_eq_getElem?_getD, List.getD_eq_getElem?_getD, List.getElem?_append_left q]
    rw [g2]
    exact h i (List.mem_range.mpr (by omega))
  · have g2 : (timesOf evs ++ [t]).getD (i + 1) 0 = t := by
      rw [List.getD_eq_getElem?_getD, List.getElem?_append_right (by omega), show i + 1 - (timesOf evs).length = 0 by omega]
      rfl
    rw [g2]
    obtain ⟨x, u, e2, hu⟩ := hb evs[i] (List.getElem_mem (by omega))
    have e3 : evs[i]? = some (.tuple [x, .int u]) := by rw [List.getElem?_eq_getElem (by omega), e2]
    rw [timesOf_get e3]
    exact decide_eq_true hu
abbrev preM : List PyData → Prop := fun ds => ∃ (L : Str) (n : Int), ds = [.str L, .int 3, .int n] ∧ (L = "a" ∨ L = "ab") ∧ 0 ≤ n ∧ n ≤ 8
theorem ok_mkrow (F : L2.Fun K "_law_row" "_law_row" sMkRow f fd) (bi : Bi mg) (c1 : Cal P w K mg base 2 "_law_take" ["pile", "size"] (spP 1 preT postT)) :
    FnG P w K mg base 3 f fd ["pile", "letters", "m", "size"] (spP 3 preM fun _ d => RowM d) := by
  refine fnP F scsMkRow (by simp) _ _ fun cdv A outer s H hg hr => ?_
  refine' ⟨_, ?h1, ?h2⟩
  case h1 =>
    have km : KMark K := ⟨⟩
    have nd : (["pile", "letters", "m", "size", "grain", "events", "now", "j", "way"] : List Str).Nodup := by decide +kernel
    have : (["pile", "letters", "m", "size", "grain", "events", "now", "j", "way"] : List Str)[0]? = some ("pile" : Str) := rfl
    have : (["pile", "letters", "m", "size", "grain", "events", "now", "j", "way"] : List Str)[1]? = some ("letters" : Str) := rfl
    have : (["pile", "letters", "m", "size", "grain", "events", "now", "j", "way"] : List Str)[2]? = some ("m" : Str) := rfl
    have : (["pile", "letters", "m", "size", "grain", "events", "now", "j", "way"] : List Str)[3]? = some ("size" : Str) := rfl
    have : (["pile", "letters", "m", "size", "grain", "events", "now", "j", "way"] : List Str)[4]? = some ("grain" : Str) := rfl
    have : (["pile", "letters", "m", "size", "grain", "events", "now", "j", "way"] : List Str)[5]? = some ("events" : Str) := rfl
    have : (["pile", "letters", "m", "size", "grain", "events", "now", "j", "way"] : List Str)[6]? = some ("now" : Str) := rfl
    have : (["pile", "letters", "m", "size", "grain", "events", "now", "j", "way"] : List Str)[7]? = some ("j" : Str) := rfl
    have : (["pile", "letters", "m", "size", "grain", "events", "now", "j", "way"] : List Str)[8]? = some ("way" : Str) := rfl
    fail "fTop"
  case h2 =>
    rintro p ds hl ⟨L, n, rfl, hL, n0, n8⟩
    try dsimp only [cxK, blkK]
    show EvS K _ [some (.pile p), some (.dat (.str L)), some (.dat (.int 3)), some (.dat (.int n)), none, none, none, none, none] _
    fail "w"
    refine ⟨⟨4, rfl, by decide, by decide⟩, ?_⟩
    rintro d ⟨_, g, e, rfl, g0, g1⟩
    cases e
    fail "w"
    intro pe
    fail "w"
    refine es_for (ei_rng1 (ea_cons (ev_var rfl (ea_nil ⟨_, rfl, ⟨by omega, by omega⟩, ?_⟩))))
    refine ⟨fun i e => ∃ evs now a b, e = [some (.pile p), some (.dat (.str L)), some (.dat (.int 3)), some (.dat (.int n)), some (.dat (.int (1 + g))), some (.own pe evs), some (.dat (.int now)), a, b] ∧
      evs.length = i ∧ i ≤ n.toNat ∧ 0 ≤ now ∧ now ≤ 100 * i ∧ (∀ e, e ∈ evs → EvM now e) ∧ nondec (timesOf evs) = true, ⟨[], 0, none, none, rfl, rfl, Nat.zero_le _, by omega, by omega, (fun e h => by cases h), rfl⟩, ?_, ?_⟩
    · rintro i d e hd ⟨evs, now, a, b, rfl, hlen, hin, h0, h1, hev, hnd⟩
      obtain ⟨hi, rfl⟩ := nums_get hd
      fail "w"
      refine ⟨⟨5, rfl, by decide, by decide⟩, ?_⟩
      rintro d ⟨_, way, e, rfl, w0, w1⟩
      cases e
      -- the event's time is settled, then the letter
      have fin : ∀ (now' : Int) (q : Sl), now ≤ now' → now' ≤ now + 100 → EvS K
          (tDrop (tBM K "list" rAppend (tVar 5) (tCons (tTup (tCons (tOp (rIx K) (tVar 1) (tCB (callOf (spP 1 preT postT)) (tCons (tVar 0) (tCons (tCB (rLen K) (tCons (tVar 1) tNil)) tNil)))) (tCons (tVar 6) tNil))) tNil)))
          [some (.pile p), some (.dat (.str L)), some (.dat (.int 3)), some (.dat (.int n)), some (.dat (.int (1 + g))), some (.own pe evs), some (.dat (.int now')), some (.dat (.int (0 + (i : Int)))), some q]
          { nx := fun e => ∃ evs now a b, e = [some (.pile p), some (.dat (.str L)), some (.dat (.int 3)), some (.dat (.int n)), some (.dat (.int (1 + g))), some (.own pe evs), some (.dat (.int now)), a, b] ∧
              evs.length = i + 1 ∧ i + 1 ≤ n.toNat ∧ 0 ≤ now ∧ now ≤ 100 * ((i + 1 : Nat) : Int) ∧ (∀ e, e ∈ evs → EvM now e) ∧ nondec (timesOf evs) = true } := fun now' q b1 b2 => by
        have put : ∀ c : Nat, (c = 97 ∨ c = 98) → ∃ evs2 now a b, ([some (.pile p), some (.dat (.str L)), some (.dat (.int 3)), some (.dat (.int n)), some (.dat (.int (1 + g))), some (.own pe evs), some (.dat (.int now')), some (.dat (.int (0 + (i : Int)))), some q] : En).set 5 (some (.own pe (evs ++ [.tuple [.str ⟨#[c]⟩, .int now']]))) =
            [some (.pile p), some (.dat (.str L)), some (.dat (.int 3)), some (.dat (.int n)), some (.dat (.int (1 + g))), some (.own pe evs2), some (.dat (.int now)), a, b] ∧
            evs2.length = i + 1 ∧ i + 1 ≤ n.toNat ∧ 0 ≤ now ∧ now ≤ 100 * ((i + 1 : Nat) : Int) ∧ (∀ e, e ∈ evs2 → EvM now e) ∧ nondec (timesOf evs2) = true := fun c hc => by
          refine ⟨_, now', _, _, rfl, by simp [hlen], hi, by omega, by omega, fun e he => ?_, ?_⟩
          · rcases List.mem_append.mp he with h | h
            · obtain ⟨c', t, rfl, hc', t0, t1⟩ := hev e h
              exact ⟨c', t, rfl, hc', t0, by omega⟩
            · obtain rfl := List.mem_singleton.mp h
              exact ⟨c, now', rfl, hc, by omega, by omega⟩
          · exact nondec_snoc hnd (fun e he => by obtain ⟨c', t, rfl, _, _, t1⟩ := hev e he; exact ⟨_, _, rfl, by omega⟩)
        refine es_append (ds0 := evs) rfl ?_
        fail "w"
        rcases hL with rfl | rfl
        · refine rc_lenS (by decide) ?_
          fail "w"
          refine ⟨⟨_, rfl, by decide, by decide⟩, ?_⟩
          rintro d ⟨_, z, e, rfl, z0, z1⟩
          cases e
          have : z = 0 := by have z1' : z < 1 := z1; omega
          subst this
          refine rd_ixS (c := 97) (by decide) rfl ?_
          fail "w"
          refine ⟨(by show 2 ≤ sizeLine; decide), _, rfl, by rw [hlen]; exact Nat.lt_of_lt_of_le (show i < 1000 by omega) (by decide), put 97 (.inl rfl)⟩
        · refine rc_lenS (by decide) ?_
          fail "w"
          refine ⟨⟨_, rfl, by decide, by decide⟩, ?_⟩
          rintro d ⟨_, z, e, rfl, z0, z1⟩
          cases e
          have : z = 0 ∨ z = 1 := by have z1' : z < 2 := z1; omega
          rcases this with rfl | rfl
          · refine rd_ixS (c := 97) (by decide) rfl ?_
            fail "w"
            refine ⟨(by show 2 ≤ sizeLine; decide), _, rfl, by rw [hlen]; exact Nat.lt_of_lt_of_le (show i < 1000 by omega) (by decide), put 97 (.inl rfl)⟩
          · refine rd_ixS (c := 98) (by decide) rfl ?_
            fail "w"
            refine ⟨(by show 2 ≤ sizeLine; decide), _, rfl, by rw [hlen]; exact Nat.lt_of_lt_of_le (show i < 1000 by omega) (by decide), put 98 (.inr rfl)⟩
      fail "v1"
      refine es_seq (es_if ?_)
      fail "v"
      refine ⟨fun hc => ?_, fun hc => es_next ((fin now _ (by omega) (by omega)).imp (fun _ h => h) (fun _ _ h => h.elim) (fun _ h => h.elim) (fun _ h => h.elim) (fun _ h => h.elim))⟩
      have wp : 0 < way := of_decide_eq_true hc
      fail "w"
      refine ⟨⟨_, rfl, by omega, by omega⟩, ?_⟩
      rintro d ⟨_, y1, e, rfl, a0, a1⟩
      cases e
      fail "w"
      refine ⟨⟨_, rfl, by omega, by omega⟩, ?_⟩
      rintro d ⟨_, y2, e, rfl, c0, c1⟩
      cases e
      fail "w"
      refine ⟨(by show 5 ≤ sizeLine; decide), ?_⟩
      fail "w"
      have : way = 1 ∨ way = 2 ∨ way = 3 ∨ way = 4 := by omega
      rcases this with rfl | rfl | rfl | rfl
      · refine rd_ixL (d := .int 1) rfl ?_
        fail "w"
        exact (fin _ _ (by omega) (by omega)).imp (fun _ h => h) (fun _ _ h => h.elim) (fun _ h => h.elim) (fun _ h => h.elim) (fun _ h => h.elim)
      · refine rd_ixL (d := .int (1 + g)) rfl ?_
        fail "w"
        exact (fin _ _ (by omega) (by omega)).imp (fun _ h => h) (fun _ _ h => h.elim) (fun _ h => h.elim) (fun _ h => h.elim) (fun _ h => h.elim)
      · refine rd_ixL (d := .int y1) rfl ?_
        fail "w"
        exact (fin _ _ (by omega) (by omega)).imp (fun _ h => h) (fun _ _ h => h.elim) (fun _ h => h.elim) (fun _ h => h.elim) (fun _ h => h.elim)
      · refine rd_ixL (d := .int y2) rfl ?_
        fail "w"
        exact (fin _ _ (by omega) (by omega)).imp (fun _ h => h) (fun _ _ h => h.elim) (fun _ h => h.elim) (fun _ h => h.elim) (fun _ h => h.elim)
    · rintro e ⟨evs, now, a, b, rfl, hlen, _, h0, h1, hev, hnd⟩
      fail "v"
      refine ev_own (p := pe) (ds := evs) rfl ?_
      fail "w"
      exact ⟨(by show 2 ≤ sizeLine; decide), rfl, _, evs, rfl, by omega, by omega, by omega, fun e he => by obtain ⟨c, t, rfl, hc, t0, t1⟩ := hev e he; exact ⟨c, t, rfl, hc, t0, by omega⟩, hnd⟩
end


abbrev sBad : Stmt := tp 26
theorem scsBad : FnScope ["found", "odd"] [] (defScope sBad) := ⟨rfl, rfl, rfl, by decide +kernel, rfl, by decide +kernel, by decide +kernel⟩
abbrev sGood : Stmt := tp 28
theorem scsGood : FnScope ["row", "kept", "i", "x"] ["row"] (defScope sGood) := ⟨rfl, rfl, rfl, by decide +kernel, rfl, by decide +kernel, by decide +kernel⟩
/-! ### things that are no rows -/
def bad1 : List PyData := [.none, .int 0, .bool true, .str "", .tuple [], .list [], .tuple [.int 1], .tuple [.int 1, .tuple [], .tuple []], .list [.int 1, .tuple []], .tuple [.int 1, .list []], .tuple [.int 0, .tuple []], .tuple [.int (-1), .tuple []], .tuple [.bool true, .tuple []], .tuple [.str "1", .tuple []]]
def bad2 : List PyData := [.tuple [.none, .tuple []], .tuple [.int 1, .none], .tuple [.int 1, .str "a"], .tuple [.int 1, .tuple [.tuple [.str "a", .int 2], .tuple [.str "a", .int 1]]], .tuple [.int 1, .tuple [.tuple [.str "a", .int 0], .tuple [.str "b", .int 5], .tuple [.str "a", .int 4]]]]
def odd1 : List PyData := [.none, .tuple [], .str "a", .tuple [.str "a"], .tuple [.str "a", .int 0, .int 0], .list [.str "a", .int 0], .tuple [.str "", .int 0], .tuple [.str "ab", .int 0], .tuple [.str "A", .int 0], .tuple [.int 0, .int 0], .tuple [.none, .int 0]]
def odd2 : List PyData := [.tuple [.str "a", .int (-1)], .tuple [.str "a", .bool true], .tuple [.str "a", .none], .tuple [.str "a", .str "0"], .tuple [.str "a", .tuple [.int 0]], .tuple [.list [.str "a"], .int 0], .tuple [.str "1", .int 0], .tuple [.str "a\n", .int 0]]
def two1 (d : PyData) : List PyData := [.tuple [.int 1, .tuple [d]], .tuple [.int 2, .tuple [.tuple [.str "a", .int 0], d]]]
def two2 (d : PyData) : List PyData := [.tuple [.int 1, .tuple [d]], .tuple [.int 2, .tuple [d, .tuple [.str "a", .int 3]]]]
def upTo (f : PyData → List PyData) (b : List PyData) (l : List PyData) : List PyData := b ++ (l.map f).flatten
theorem upTo_snoc (f : PyData → List PyData) (b l : List PyData) (d : PyData) : upTo f b (l ++ [d]) = upTo f b l ++ f d := by
  unfold upTo
  rw [List.map_append, List.flatten_append, List.append_assoc]
  simp
theorem upTo_len (f : PyData → List PyData) (hf : ∀ d, (f d).length = 2) (b l : List PyData) : (upTo f b l).length = b.length + 2 * l.length := by
  unfold upTo
  rw [List.length_append]
  congr 1
  induction l with
  | nil => rfl
  | cons d l ih => rw [List.map_cons, List.flatten_cons, List.length_append, ih, hf, List.length_cons]; omega
def badRows : List PyData := upTo two2 (upTo two1 (bad1 ++ bad2) odd1) odd2
theorem bad_none : badRows.filter rowD = [] := by decide +kernel
theorem bad_sm : ∀ d, d ∈ badRows → sm d = true := List.all_eq_true.mp (by decide +kernel : badRows.all sm = true)
section
variable {P : Program} {w : World} {K : PySem.W.Frag} {mg : Str → Option Value} {base : Heap} {f : Addr} {fd : FuncData}
theorem ok_bad (F : L2.Fun K "_law_bad_rows" "_law_bad_rows" sBad f fd) (bi : Bi mg) : FnG P w K mg base 1 f fd [] (spF 0 (fun ds => ds = []) fun _ => .list badRows) := by
  refine fnD F scsBad _ _ fun cdv A outer s H hg hr => ?_
  refine' ⟨_, ?h1, ?h2⟩
  case h1 =>
    have km : KMark K := ⟨⟩
    have nd : (["found", "odd"] : List Str).Nodup := by decide +kernel
    have : (["found", "odd"] : List Str)[0]? = some ("found" : Str) := rfl
    have : (["found", "odd"] : List Str)[1]? = some ("odd" : Str) := rfl
    fail "fTop"
  case h2 =>
    rintro ds hl rfl
    show EvS K _ [none, none] _
    fail "z"
    refine es_for (ei_list ?_)
    fail "z"
    refine ⟨fun m e => ∃ a, e = [some (.dat (.list (upTo two1 (bad1 ++ bad2) (odd1.take m)))), a] ∧ m ≤ 11, ⟨none, rfl, Nat.zero_le _⟩, ?_, ?_⟩
    · rintro m d e hd ⟨a, rfl, hm⟩
      have hd' : odd1[m]? = some d := hd
      have lt : m < 11 := (List.getElem?_eq_some_iff.mp hd').1
      fail "z"
      refine rd_plusL ?_ ?_
      · rw [upTo_len _ (fun _ => rfl), List.length_take]
        show 19 + 2 * min m 11 + 2 ≤ sizeLine
        exact Nat.le_trans (show _ ≤ 1000 by omega) (by decide)
      fail "z"
      refine ⟨some (.dat d), ?_, lt⟩
      rw [List.take_add_one, hd']
      show [some (Sl.dat (PyData.list (_ ++ two1 d))), _] = _
      rw [← upTo_snoc]
      rfl
    · rintro e ⟨a, rfl, _⟩
      refine es_seq (es_for (ei_list ?_))
      fail "z"
      refine ⟨fun m e => ∃ a, e = [some (.dat (.list (upTo two2 (upTo two1 (bad1 ++ bad2) odd1) (odd2.take m)))), a] ∧ m ≤ 8, ⟨a, rfl, Nat.zero_le _⟩, ?_, ?_⟩
      · rintro m d e hd ⟨a, rfl, hm⟩
        have hd' : odd2[m]? = some d := hd
        have lt : m < 8 := (List.getElem?_eq_some_iff.mp hd').1
        fail "z"
        refine rd_plusL ?_ ?_
        · rw [upTo_len _ (fun _ => rfl), List.length_take, upTo_len _ (fun _ => rfl)]
          show 19 + 2 * 11 + 2 * min m 8 + 2 ≤ sizeLine
          exact Nat.le_trans (show _ ≤ 1000 by omega) (by decide)
        fail "z"
        refine ⟨some (.dat d), ?_, lt⟩
        rw [List.take_add_one, hd']
        show [some (Sl.dat (PyData.list (_ ++ two2 d))), _] = _
        rw [← upTo_snoc]
        rfl
      · rintro e ⟨a, rfl, _⟩
        fail "z"
        rfl
/-! ### a made row -/
theorem evM_isEv {b : Int} {e : PyData} (h : EvM b e) : isEv e = true := by
  obtain ⟨c, t, rfl, hc, t0, _⟩ := h
  show (decide (97 ≤ c ∧ c ≤ 122) && decide (0 ≤ t)) = true
  rw [decide_eq_true (by omega), decide_eq_true t0]; rfl
theorem rowM_row {d : PyData} (h : RowM d) : rowD d = true := by
  obtain ⟨g, evs, rfl, g1, g4, hl, he, hn⟩ := h
  show (decide (1 ≤ g) && (evs.all isEv && nondec (timesOf evs))) = true
  rw [decide_eq_true g1, hn, List.all_eq_true.mpr fun e h => evM_isEv (he e h)]; rfl
mutual
/-- nothing in it is longer than k -/
def smB (k : Nat) : PyData → Bool
  | .str x => decide (x.length ≤ k)
  | .list ds => decide (ds.length ≤ k) && smBA k ds
  | .tuple ds => decide (ds.length ≤ k) && smBA k ds
  | .dict _ => false
  | _ => true
def smBA (k : Nat) : List PyData → Bool
  | [] => true
  | d :: ds => smB k d && smBA k ds
end
theorem smBA_iff {k : Nat} : ∀ {ds : List PyData}, smBA k ds = true ↔ ∀ d, d ∈ ds → smB k d = true
  | [] => ⟨fun _ _ h => (by cases h), fun _ => rfl⟩
  | d :: ds => by
    show (smB k d && smBA k ds) = true ↔ _
    rw [Bool.and_eq_true, smBA_iff]
    constructor
    · rintro ⟨h1, h2⟩ e he
      rcases List.mem_cons.mp he with rfl | q
      · exact h1
      · exact h2 e q
    · exact fun h => ⟨h d List.mem_cons_self, fun e he => h e (List.mem_cons_of_mem _ he)⟩
theorem smB_tup {k : Nat} {ds : List PyData} : smB k (.tuple ds) = true ↔ ds.length ≤ k ∧ ∀ d, d ∈ ds → smB k d = true := by
  show (decide (ds.length ≤ k) && smBA k ds) = true ↔ _
  rw [Bool.and_eq_true, decide_eq_true_eq, smBA_iff]
theorem smB_lst {k : Nat} {ds : List PyData} : smB k (.list ds) = true ↔ ds.length ≤ k ∧ ∀ d, d ∈ ds → smB k d = true := by
  show (decide (ds.length ≤ k) && smBA k ds) = true ↔ _
  rw [Bool.and_eq_true, decide_eq_true_eq, smBA_iff]
mutual
theorem smB_mono {j k : Nat} (h : j ≤ k) : ∀ d : PyData, smB j d = true → smB k d = true
  | .none, _ => rfl
  | .bool _, _ => rfl
  | .int _, _ => rfl
  | .str x, q => by
    have q' : x.length ≤ j := of_decide_eq_true q
    exact decide_eq_true (by omega)
  | .list ds, q => by
    have q' : (decide (ds.length ≤ j) && smBA j ds) = true := q
    rw [Bool.and_eq_true, decide_eq_true_eq] at q'
    show (decide (ds.length ≤ k) && smBA k ds) = true
    rw [Bool.and_eq_true, decide_eq_true_eq]
    exact ⟨by omega, smBA_mono h ds q'.2⟩
  | .tuple ds, q => by
    have q' : (decide (ds.length ≤ j) && smBA j ds) = true := q
    rw [Bool.and_eq_true, decide_eq_true_eq] at q'
    show (decide (ds.length ≤ k) && smBA k ds) = true
    rw [Bool.and_eq_true, decide_eq_true_eq]
    exact ⟨by omega, smBA_mono h ds q'.2⟩
  | .dict _, q => by cases q
theorem smBA_mono {j k : Nat} (h : j ≤ k) : ∀ ds : List PyData, smBA j ds = true → smBA k ds = true
  | [], _ => rfl
  | d :: ds, q => by
    have q' : (smB j d && smBA j ds) = true := q
    rw [Bool.and_eq_true] at q'
    show (smB k d && smBA k ds) = true
    rw [Bool.and_eq_true]
    exact ⟨smB_mono h d q'.1, smBA_mono h ds q'.2⟩
end
mutual
theorem sm_of : ∀ d : PyData, smB 1000 d = true → sm d = true
  | .none, _ => rfl
  | .bool _, _ => rfl
  | .int _, _ => rfl
  | .str x, q => q
  | .list ds, q => by
    have q' : (decide (ds.length ≤ 1000) && smBA 1000 ds) = true := q
    rw [Bool.and_eq_true] at q'
    show (decide (ds.length ≤ 1000) && smA ds) = true
    rw [q'.1, smA_of ds q'.2]; rfl
  | .tuple ds, q => by
    have q' : (decide (ds.length ≤ 1000) && smBA 1000 ds) = true := q
    rw [Bool.and_eq_true] at q'
    show (decide (ds.length ≤ 1000) && smA ds) = true
    rw [q'.1, smA_of ds q'.2]; rfl
  | .dict _, q => by cases q
theorem smA_of : ∀ ds : List PyData, smBA 1000 ds = true → smA ds = true
  | [], _ => rfl
  | d :: ds, q => by
    have q' : (smB 1000 d && smBA 1000 ds) = true := q
    rw [Bool.and_eq_true] at q'
    show (sm d && smA ds) = true
    rw [sm_of d q'.1, smA_of ds q'.2]; rfl
end
theorem rowM_sm {d : PyData} (h : RowM d) : smB 8 d = true := by
  obtain ⟨g, evs, rfl, g1, g4, hl, he, hn⟩ := h
  refine smB_tup.mpr ⟨(show 2 ≤ 8 by decide), fun e h => ?_⟩
  rcases List.mem_cons.mp h with rfl | h
  · rfl
  obtain rfl := List.mem_singleton.mp h
  refine smB_tup.mpr ⟨hl, fun e h => ?_⟩
  obtain ⟨c, t, rfl, _⟩ := he e h
  rfl
/-- data that == and repr go over, small in depth -/
structure Fine (n : Nat) (d : PyData) : Prop where
  nd : noDict d = true
  cl : PyData.canLay0 d = true
  dp : PyData.depth d ≤ n
structure FineA (n : Nat) (ds : List PyData) : Prop where
  nd : noDictAll ds = true
  cl : PyData.canLayAll0 ds = true
  dp : PyData.depthAll ds ≤ n
theorem fineA_iff {n : Nat} : ∀ {ds : List PyData}, FineA n ds ↔ ∀ d, d ∈ ds → Fine n d
  | [] => ⟨fun _ _ h => (by cases h), fun _ => ⟨rfl, rfl, Nat.zero_le _⟩⟩
  | d :: ds => by
    constructor
    · rintro ⟨h1, h2, h3⟩ e he
      have h1' : (noDict d && noDictAll ds) = true := h1
      have h2' : (PyData.canLay0 d && PyData.canLayAll0 ds) = true := h2
      have h3' : max (PyData.depth d) (PyData.depthAll ds) ≤ n := h3
      rw [Bool.and_eq_true] at h1' h2'
      rcases List.mem_cons.mp he with rfl | q
      · exact ⟨h1'.1, h2'.1, by omega⟩
      · exact fineA_iff.mp ⟨h1'.2, h2'.2, by omega⟩ e q
    · intro h
      have a := h d List.mem_cons_self
      have b := fineA_iff.mpr fun e he => h e (List.mem_cons_of_mem _ he)
      refine ⟨?_, ?_, ?_⟩
      · show (noDict d && noDictAll ds) = true
        rw [a.nd, b.nd]; rfl
      · show (PyData.canLay0 d && PyData.canLayAll0 ds) = true
        rw [a.cl, b.cl]; rfl
      · show max (PyData.depth d) (PyData.depthAll ds) ≤ n
        have := a.dp
        have := b.dp
        omega
theorem fine_tup {n : Nat} {ds : List PyData} (h : ∀ d, d ∈ ds → Fine n d) : Fine (n + 1) (.tuple ds) := by
  have := fineA_iff.mpr h
  exact ⟨this.nd, this.cl, Nat.succ_le_succ this.dp⟩
theorem fine_items {n : Nat} {ds : List PyData} (h : Fine n (.tuple ds)) : ∀ d, d ∈ ds → Fine n d := fineA_iff.mp ⟨h.nd, h.cl, by
  have h3 : PyData.depthAll ds + 1 ≤ n := h.dp
  omega⟩
theorem fine_eqOk {n : Nat} {d : PyData} (h : Fine n d) (hn : n ≤ 64) : eqOk d = true := by
  show (noDict d && (PyData.canLay0 d && decide (PyData.depth d ≤ 64))) = true
  rw [h.nd, h.cl, decide_eq_true (Nat.le_trans h.dp hn)]; rfl
theorem fine_let {c : Nat} (h : c < 200) (n : Nat) : Fine n (.str ⟨#[c]⟩) := by
  refine ⟨rfl, ?_, Nat.zero_le _⟩
  show (#[c]).all (· < 0x110000) = true
  simp
  omega
theorem rowM_fine {d : PyData} (h : RowM d) : Fine 3 d := by
  obtain ⟨g, evs, rfl, g1, g4, hl, he, hn⟩ := h
  refine fine_tup fun e h => ?_
  rcases List.mem_cons.mp h with rfl | h
  · exact ⟨rfl, rfl, Nat.zero_le _⟩
  obtain rfl := List.mem_singleton.mp h
  refine fine_tup (n := 1) fun e h => ?_
  obtain ⟨c, t, rfl, hc, _⟩ := he e h
  refine fine_tup (n := 0) fun e h => ?_
  rcases List.mem_cons.mp h with rfl | h
  · exact fine_let (by omega) _
  obtain rfl := List.mem_singleton.mp h
  exact ⟨rfl, rfl, Nat.zero_le _⟩
/-! its text -/
theorem tupText_le {b : Nat} {ts : List Str} (h : ∀ t, t ∈ ts → t.length ≤ b) : (tupleText ts).length ≤ ts.length * (b + 2) + 3 := by
  have hp : ∀ ts : List Str, (∀ t, t ∈ ts → t.length ≤ b) → piled ts ≤ ts.length * (b + 2) := by
    intro ts
    induction ts with
    | nil =>
      intro _
      have : piled [] = 0 := rfl
      rw [this]
      exact Nat.zero_le _
    | cons t ts ih =>
      intro h
      rw [piled_cons, List.length_cons, Nat.add_mul]
      have h1 := h t List.mem_cons_self
      have h2 := ih fun u hu => h u (List.mem_cons_of_mem _ hu)
      omega
  have hj : (Str.join ", " ts).length ≤ ts.length * (b + 2) := by
    cases ts with
    | nil =>
      have : (Str.join (Str.ofString ", ") []).length = 0 := by decide
      show (Str.join (Str.ofString ", ") []).length ≤ _
      rw [this]
      exact Nat.zero_le _
    | cons t r =>
      have := join_length_add (t :: r) (by simp)
      have := hp (t :: r) h
      omega
  unfold tupleText
  rw [Str.length_append, Str.length_append]
  have e1 : (Str.ofString "(").length = 1 := by decide
  have e2 : (Str.ofString (if ts.length == 1 then ",)" else ")")).length ≤ 2 := by split <;> decide
  have e1' : (("(" : String) : Str).length = 1 := e1
  omega
theorem shownAll_map : ∀ ds : List PyData, PyData.shownAll ds = ds.map PyData.shown
  | [] => rfl
  | d :: ds => by
    show PyData.shown d :: PyData.shownAll ds = _
    rw [shownAll_map ds]; rfl
theorem shown_tup {b : Nat} {ds : List PyData} (h : ∀ d, d ∈ ds → (PyData.shown d).length ≤ b) : (PyData.shown (.tuple ds)).length ≤ ds.length * (b + 2) + 3 := by
  show (tupleText (PyData.shownAll ds)).length ≤ _
  rw [shownAll_map]
  refine Nat.le_trans (tupText_le (b := b) fun t ht => ?_) (by rw [List.length_map]; exact Nat.le_refl _)
  obtain ⟨d, hd, rfl⟩ := List.mem_map.mp ht
  exact h d hd
theorem log_small {i : Int} (h : i.natAbs < 2 ^ 20) : i.natAbs.log2 < 1920 := by
  by_cases z : i.natAbs = 0
  · rw [z]; decide
  · exact Nat.lt_trans ((Nat.log2_lt z).mpr h) (by decide)
theorem shown_int {i : Int} (h : i.natAbs < 2 ^ 20) : (PyData.shown (.int i)).length ≤ 1921 := int_text_len_1921 (log_small h)
theorem rowM_repr {g : Int} {evs : List PyData} (h : RowM (.tuple [.int g, .tuple evs])) : ReprOk (.tuple [.int g, .tuple evs]) := by
  have fn := rowM_fine h
  obtain ⟨g', evs', e, g1, g4, hl, he, hn⟩ := h
  cases e
  have se : ∀ e, e ∈ evs → PyData.showable e = true ∧ PyData.hasDict e = false ∧ (PyData.shown e).length ≤ 4000 := fun e hm => by
    obtain ⟨c, t, rfl, hc, t0, t1⟩ := he e hm
    refine ⟨?_, rfl, ?_⟩
    · show (true && (decide (t.natAbs.log2 < 1920) && true)) = true
      rw [decide_eq_true (log_small (by omega))]; rfl
    · refine Nat.le_trans (shown_tup (b := 1921) fun d hd => ?_) (show 2 * (1921 + 2) + 3 ≤ 4000 by decide)
      rcases List.mem_cons.mp hd with rfl | hd
      · show (reprText ⟨#[c]⟩).length ≤ 1921
        refine Nat.le_trans (PySem.StrLaws.reprText_len _ fun x hx => ?_) (by show 10 * 1 + 2 ≤ 1921; decide)
        have : x = c := by simpa using hx
        rw [this]
        omega
      · obtain rfl := List.mem_singleton.mp hd
        exact shown_int (by omega)
  refine ⟨fn.nd, ?_, ?_, Nat.le_trans fn.dp (by decide), ?_⟩
  · show (decide (g.natAbs.log2 < 1920) && (PyData.showableAll evs && true)) = true
    have : ∀ l : List PyData, (∀ e, e ∈ l → PyData.showable e = true) → PyData.showableAll l = true := by
      intro l
      induction l with
      | nil => intro _; rfl
      | cons d l ih =>
        intro h
        show (PyData.showable d && PyData.showableAll l) = true
        rw [h d List.mem_cons_self, ih fun e he => h e (List.mem_cons_of_mem _ he)]; rfl
    rw [decide_eq_true (log_small (by omega)), this evs fun e h => (se e h).1]; rfl
  · show (false || (PyData.hasDictAll evs || false)) = false
    have : ∀ l : List PyData, (∀ e, e ∈ l → PyData.hasDict e = false) → PyData.hasDictAll l = false := by
      intro l
      induction l with
      | nil => intro _; rfl
      | cons d l ih =>
        intro h
        show (PyData.hasDict d || PyData.hasDictAll l) = false
        rw [h d List.mem_cons_self, ih fun e he => h e (List.mem_cons_of_mem _ he)]; rfl
    rw [this evs fun e h => (se e h).2.1]; rfl
  · refine Nat.le_trans (shown_tup (b := 40000) fun d hd => ?_) (Nat.le_trans (show 2 * (40000 + 2) + 3 ≤ 100000 by decide) (by decide))
    rcases List.mem_cons.mp hd with rfl | hd
    · exact Nat.le_trans (shown_int (by omega)) (by decide)
    · obtain rfl := List.mem_singleton.mp hd
      refine Nat.le_trans (shown_tup (b := 4000) fun d hd => (se d hd).2.2) ?_
      have : evs.length * (4000 + 2) ≤ 8 * (4000 + 2) := Nat.mul_le_mul_right _ hl
      omega
theorem rd_neS1 {env : En} {P : PyData → Prop} {d : Str} (p : P (.bool false)) : RD K (rNeA K) env (.str d) (.str d) P := rd_neS (by rw [decide_eq_true rfl]; exact p)
theorem rd_eqS1 {env : En} {P : PyData → Prop} {d : Str} (p : P (.bool true)) : RD K (rEqA K) env (.str d) (.str d) P := rd_eqS (by rw [decide_eq_true rfl]; exact p)
theorem lastT_bd {x : Str} : ∀ (l : List PyData) (r : Option Int), (∀ e, e ∈ l → EvM 1000 e) → (∀ t, r = some t → 0 ≤ t ∧ t ≤ 1000) → ∀ t, lastT x l r = some t → 0 ≤ t ∧ t ≤ 1000
  | [], r, _, hr, t, h => hr t h
  | e :: l, r, he, hr, t, h => by
    refine lastT_bd l (stepT x r e) (fun e' h' => he e' (List.mem_cons_of_mem _ h')) (fun u hu => ?_) t h
    obtain ⟨c, t', rfl, _, t0, t1⟩ := he e List.mem_cons_self
    have hu' : (if (⟨#[c]⟩ : Str) = x then some t' else r) = some u := hu
    split at hu'
    · cases hu'; exact ⟨t0, t1⟩
    · exact hr u hu'
theorem gap_kind {evs : List PyData} (he : ∀ e, e ∈ evs → EvM 1000 e) {i : Nat} (hi : i < evs.length) (x : Str) : gapD evs i x = .none ∨ ∃ z : Int, gapD evs i x = .int z ∧ z.natAbs < 2 ^ 20 := by
  unfold gapD
  cases hl : lastT x (evs.take i) (t0 x) with
  | none => exact .inl rfl
  | some t =>
    refine .inr ⟨_, rfl, ?_⟩
    obtain ⟨b0, b1⟩ := lastT_bd _ _ (fun e h => he e (List.mem_of_mem_take h)) (fun t h => by
      unfold t0 at h
      split at h
      · cases h; omega
      · cases h) t hl
    have : ∃ v, (timesOf evs).getD i 0 = v ∧ 0 ≤ v ∧ v ≤ 1000 := by
      have hm : evs[i] ∈ evs := List.getElem_mem hi
      obtain ⟨c, t', e, _, q0, q1⟩ := he _ hm
      refine ⟨t', ?_, q0, q1⟩
      unfold timesOf
      rw [List.getD_eq_getElem?_getD, List.getElem?_map, List.getElem?_eq_getElem hi, e]
      rfl
    obtain ⟨v, hv, v0, v1⟩ := this
    rw [hv]
    omega
/-- the letters that are asked for -/
def fourX : List PyData := [.str "", .str "a", .str "b", .str "c"]
theorem fourX_ok {m : Nat} {d : PyData} (h : fourX[m]? = some d) : ∃ x : Str, d = .str x ∧ (x = "" ∨ isLet (.str x) = true) := by
  have hm : d ∈ fourX := List.mem_of_getElem? h
  have h4 : d = .str "" ∨ d = .str "a" ∨ d = .str "b" ∨ d = .str "c" := by simpa [fourX] using hm
  rcases h4 with rfl | rfl | rfl | rfl
  · exact ⟨_, rfl, .inl rfl⟩
  · exact ⟨_, rfl, .inr (by decide +kernel)⟩
  · exact ⟨_, rfl, .inr (by decide +kernel)⟩
  · exact ⟨_, rfl, .inr (by decide +kernel)⟩
theorem ok_good (F : L2.Fun K "_law_good" "_law_good" sGood f fd) (bi : Bi mg) (c1 : Cal P w K mg base 3 "is_row" ["thing"] (spF 1 preD fRow)) (c2 : Cal P w K mg base 5 "since" ["row", "i", "x"] (spF 3 preS fSince))
    (c3 : Cal P w K mg base 1 "_law_gap" ["events", "i", "x"] (spF 3 preG fGap)) : FnG P w K mg base 6 f fd ["row"] (spF 1 (fun ds => ∃ d, ds = [d] ∧ RowM d) fun _ => .bool true) := by
  refine fnD F scsGood _ _ fun cdv A outer s H hg hr => ?_
  refine' ⟨_, ?h1, ?h2⟩
  case h1 =>
    have km : KMark K := ⟨⟩
    have nd : (["row", "kept", "i", "x"] : List Str).Nodup := by decide +kernel
    have : (["row", "kept", "i", "x"] : List Str)[0]? = some ("row" : Str) := rfl
    have : (["row", "kept", "i", "x"] : List Str)[1]? = some ("kept" : Str) := rfl
    have : (["row", "kept", "i", "x"] : List Str)[2]? = some ("i" : Str) := rfl
    have : (["row", "kept", "i", "x"] : List Str)[3]? = some ("x" : Str) := rfl
    fail "fTop"
  case h2 =>
    rintro ds hl ⟨d, rfl, hd⟩
    have hd' := hd
    obtain ⟨g, evs, rfl, g1, g4, hn, he, _⟩ := hd'
    show EvS K _ [some (.dat (.tuple [.int g, .tuple evs])), none, none, none] _
    have rr := rowM_repr hd
    have rw1 := rowM_row hd
    have sm1 : sm (.tuple [.int g, .tuple evs]) = true := sm_of _ (smB_mono (by decide) _ (rowM_sm hd))
    have hev : evs.all isEv = true := (rowD_parts rw1).2.1
    fail "z"
    refine rc_reprT rr ?_
    fail "z"
    refine ⟨⟨_, rfl, sm1⟩, ?_⟩
    fail "v1"
    show RD K _ _ (.bool (rowD _)) _ _
    rw [rw1]
    fail "z"
    refine es_for (ei_rng1 ?_)
    fail "z"
    refine ⟨(by show -(2 ^ 62) ≤ (evs.length : Int) ∧ (evs.length : Int) < 2 ^ 62; omega), ?_⟩
    refine ⟨fun _ e => ∃ a b, e = [some (.dat (.tuple [.int g, .tuple evs])), some (.dat (.str (PyData.shown (.tuple [.int g, .tuple evs])))), a, b], ⟨none, none, rfl⟩, ?_, ?_⟩
    · rintro i d e hd ⟨a, b, rfl⟩
      obtain ⟨hi, rfl⟩ := nums_get hd
      rw [show (0 : Int) + (i : Int) = (i : Int) by omega]
      have hi : i < evs.length := by omega
      fail "v"
      refine es_for (ei_list ?_)
      fail "z"
      refine ⟨fun _ e => ∃ b, e = [some (.dat (.tuple [.int g, .tuple evs])), some (.dat (.str (PyData.shown (.tuple [.int g, .tuple evs])))), some (.dat (.int i)), b], ⟨b, rfl⟩, ?_, ?_⟩
      · rintro m d e hd ⟨b, rfl⟩
        obtain ⟨x, rfl, hx⟩ := fourX_ok hd
        fail "z"
        refine ⟨⟨.int g, evs, i, x, rfl, sm1, rw1, hi, hx⟩, ?_⟩
        fail "v1"
        show RC K (rRepr K) _ [gapD evs i x] _
        rcases gap_kind he hi x with hk | ⟨z, hk, hz⟩
        · rw [hk]
          refine rc_reprN ?_
          fail "z"
          refine ⟨⟨evs, i, x, rfl, hev, hi, by omega, hx⟩, ?_⟩
          fail "v1"
          show RC K (rRepr K) _ [gapD evs i x] _
          rw [hk]
          refine rc_reprN ?_
          refine rd_neS1 ?_
          fail "z"
          exact ⟨_, rfl⟩
        · rw [hk]
          refine rc_reprI (log_small hz) ?_
          fail "z"
          refine ⟨⟨evs, i, x, rfl, hev, hi, by omega, hx⟩, ?_⟩
          fail "v1"
          show RC K (rRepr K) _ [gapD evs i x] _
          rw [hk]
          refine rc_reprI (log_small hz) ?_
          refine rd_neS1 ?_
          fail "z"
          exact ⟨_, rfl⟩
      · rintro e ⟨b, rfl⟩
        exact ⟨_, _, rfl⟩
    · rintro e ⟨a, b, rfl⟩
      fail "z"
      refine rc_reprT rr ?_
      fail "z"
      refine rd_eqS1 ?_
      fail "z"
      rfl
end


abbrev sBent : Stmt := tp 27
theorem scsBent : FnScope ["pile", "thing", "deep", "odd", "at", "way"] ["pile", "thing", "deep"] (defScope sBent) := ⟨rfl, rfl, rfl, by decide +kernel, rfl, by decide +kernel, by decide +kernel⟩
section
variable {P : Program} {w : World} {K : PySem.W.Frag} {mg : Str → Option Value} {base : Heap} {f : Addr} {fd : FuncData}
/-! ### what stands in the place of a part -/
def oddD : List PyData := [.none, .bool true, .int 0, .int 1, .int (-1), .int 7, .str "", .str "a", .str "B", .tuple [], .list [], .tuple [.str "a", .int 0], .tuple [.str "a", .int 3], .str "0"]
theorem oddD_sm : ∀ d, d ∈ oddD → sm d = true := List.all_eq_true.mp (by decide +kernel : oddD.all sm = true)
theorem at_nat {ds : List PyData} {m : Nat} {d : PyData} (h : ds[m]? = some d) : L2.atI ds (m : Int) = some d := by
  have lt : m < ds.length := (List.getElem?_eq_some_iff.mp h).1
  have e : L2.ixN ds.length (m : Int) = some m := by
    unfold L2.ixN
    rw [if_pos (by omega), if_pos (by omega)]
    rfl
  unfold L2.atI
  rw [e]
  exact h
theorem smA_mk : ∀ {ds : List PyData}, (∀ d, d ∈ ds → sm d = true) → smA ds = true
  | [], _ => rfl
  | d :: ds, h => by
    show (sm d && smA ds) = true
    rw [h d List.mem_cons_self, smA_mk fun e he => h e (List.mem_cons_of_mem _ he)]; rfl
theorem sm_mk {ds : List PyData} (hl : ds.length ≤ 1000) (h : ∀ d, d ∈ ds → sm d = true) : sm (.tuple ds) = true := by
  show (decide (ds.length ≤ 1000) && smA ds) = true
  rw [decide_eq_true hl, smA_mk h]; rfl
theorem cut_mem {ds : List PyData} {lo hi : Option Int} {d : PyData} (h : d ∈ FD.cutD ds lo hi) : d ∈ ds := List.mem_of_mem_drop (List.mem_of_mem_take h)
theorem cut_len (ds : List PyData) (lo hi : Option Int) : (FD.cutD ds lo hi).length ≤ ds.length := by
  unfold FD.cutD
  rw [List.length_take, List.length_drop]
  omega
abbrev preB (n : Nat) : List PyData → Prop := fun ds => ∃ (d : PyData) (m : Nat), ds = [d, .int n] ∧ Fine m d ∧ m ≤ 60 ∧ smB 8 d = true
abbrev postB : List PyData → PyData → Prop := fun _ d => sm d = true
theorem bent_none (F : L2.Fun K "_law_bent" "_law_bent" sBent f fd) : FnG P w K mg base 2 f fd ["pile", "thing", "deep"] (spP 2 (fun _ => False) postB) :=
  fnG_of F scsBent (fun vs H Q E ⟨_, _, _, _, _, _, _, _, _, _, h, _⟩ => h.elim) fun cdv A outer s H vs Q hg hr ⟨_, _, _, _, _, _, _, _, _, _, h, _⟩ => h.elim
theorem bent_step (F : L2.Fun K "_law_bent" "_law_bent" sBent f fd) (bi : Bi mg) {k n : Nat} {pre' : List PyData → Prop} (hk : 2 ≤ k) (hn : n ≤ 3) (c1 : Cal P w K mg base 2 "_law_take" ["pile", "size"] (spP 1 preT postT))
    (c2 : Cal P w K mg base k "_law_bent" ["pile", "thing", "deep"] (spP 2 pre' postB)) (hp : n = 0 ∨ ∃ j, n = j + 1 ∧ pre' = preB j) :
    FnG P w K mg base (k + 1) f fd ["pile", "thing", "deep"] (spP 2 (preB n) postB) := by
  refine fnP F scsBent (by simp) _ _ fun cdv A outer s H hg hr => ?_
  refine' ⟨_, ?h1, ?h2⟩
  case h1 =>
    have km : KMark K := ⟨⟩
    have nd : (["pile", "thing", "deep", "odd", "at", "way"] : List Str).Nodup := by decide +kernel
    have : (["pile", "thing", "deep", "odd", "at", "way"] : List Str)[0]? = some ("pile" : Str) := rfl
    have : (["pile", "thing", "deep", "odd", "at", "way"] : List Str)[1]? = some ("thing" : Str) := rfl
    have : (["pile", "thing", "deep", "odd", "at", "way"] : List Str)[2]? = some ("deep" : Str) := rfl
    have : (["pile", "thing", "deep", "odd", "at", "way"] : List Str)[3]? = some ("odd" : Str) := rfl
    have : (["pile", "thing", "deep", "odd", "at", "way"] : List Str)[4]? = some ("at" : Str) := rfl
    have : (["pile", "thing", "deep", "odd", "at", "way"] : List Str)[5]? = some ("way" : Str) := rfl
    fail "fTop"
  case h2 =>
    rintro p ds hl ⟨d, m, rfl, fd, hm, hs⟩
    show EvS K _ [some (.pile p), some (.dat d), some (.dat (.int n)), none, none, none] _
    fail "z"
    refine ⟨⟨14, rfl, by decide, by decide⟩, ?_⟩
    rintro y ⟨n', z, e, rfl, z0, z1⟩
    cases e
    obtain ⟨j, rfl⟩ := Int.eq_ofNat_of_zero_le z0
    have jl : j < oddD.length := by show j < 14; omega
    refine rd_ixL (d := oddD[j]) (at_nat (List.getElem?_eq_getElem jl)) ?_
    have hx : sm oddD[j] = true := oddD_sm _ (List.getElem_mem jl)
    generalize oddD[j] = x at hx
    refine eg_name ?_
    have sd : sm d = true := sm_of _ (smB_mono (by decide) _ hs)
    have fin : ∀ a b : Option Sl, EvE K (tOp (rIx K) (tLst (tCons (tVar 3) (tCons (tVar 3) (tCons (tLst (tCons (tVar 1) tNil)) tNil)))) (tCB (callOf (spP 1 preT postT)) (tCons (tVar 0) (tCons (tC (V.int 3)) tNil))))
        [some (.pile p), some (.dat d), some (.dat (.int n)), some (.dat x), a, b] fun e y => e[0]? = some (some (.pile p)) ∧ sm y = true := fun a b => by
      fail "z"
      refine ⟨⟨3, rfl, by decide, by decide⟩, ?_⟩
      rintro y ⟨n', z, e, rfl, z0, z1⟩
      cases e
      have : z = 0 ∨ z = 1 ∨ z = 2 := by omega
      rcases this with rfl | rfl | rfl
      · exact rd_ixL (d := x) rfl ⟨rfl, hx⟩
      · exact rd_ixL (d := x) rfl ⟨rfl, hx⟩
      · refine rd_ixL (d := .list [d]) rfl ⟨rfl, ?_⟩
        show (decide (1 ≤ 1000) && (sm d && true)) = true
        rw [sd]; rfl
    refine es_seq (es_if (eb_or (eb_not (ev_tB (ev_isi (by decide) (ev_var rfl ⟨_, rfl, fun hc => ?_, fun hc => ⟨fun _ => es_ret (fin _ _), fun h => nomatch h⟩⟩))))))
    have ⟨ds, hds⟩ : ∃ ds, d = .tuple ds := by
      cases d with
      | tuple ds => exact ⟨ds, rfl⟩
      | _ => cases hc
    subst hds
    obtain ⟨hln, hits⟩ := smB_tup.mp hs
    have smi : ∀ e, e ∈ ds → sm e = true := fun e he => sm_of _ (smB_mono (by decide) _ (hits e he))
    refine eb_or (ev_test (ev_op (ev_var rfl (ev_tup (ea_nil ⟨Nat.zero_le _, rd_eqA (fine_eqOk fd (by omega)) (by rfl) ⟨_, rfl, fun h0 => ?_, fun _ => ⟨fun _ => es_ret (fin _ _), fun h => nomatch h⟩⟩⟩)))))
    have nn : ds ≠ [] := fun z => by subst z; cases h0
    have n1 : 1 ≤ ds.length := by
      cases ds with
      | nil => exact (nn rfl).elim
      | cons _ _ => rw [List.length_cons]; omega
    refine eb_or (ev_test (ev_op (ev_var rfl (ev_int (rd_eqA (by rfl) (by rfl) ⟨_, rfl, fun hn0 => ?_, fun _ => ⟨fun _ => es_ret (fin _ _), fun h => nomatch h⟩⟩)))))
    have n0 : n ≠ 0 := fun z => by subst z; cases hn0
    obtain ⟨j', hj, hpre⟩ : ∃ j, n = j + 1 ∧ pre' = preB j := hp.resolve_left n0
    subst hpre
    refine ev_test (ev_op (ev_callP rfl (ea_cons (ev_int (ea_nil ⟨rfl, rfl, ⟨6, rfl, by decide, by decide⟩, ?_⟩)))))
    rintro y ⟨n', z, e, rfl, z2, z3⟩
    cases e
    refine ev_int (rd_eqA (by rfl) (by rfl) ⟨_, rfl, fun _ => es_ret (fin _ _), fun _ => es_next ?_⟩)
    clear fin
    fail "z"
    refine ⟨⟨ds.length, rfl, by omega, by omega⟩, ?_⟩
    rintro y ⟨n', z, e, rfl, z4, z5⟩
    cases e
    obtain ⟨i, rfl⟩ := Int.eq_ofNat_of_zero_le z4
    have il : i < ds.length := by omega
    fail "z"
    refine ⟨⟨8, rfl, by decide, by decide⟩, ?_⟩
    rintro y ⟨n', z, e, rfl, z6, z7⟩
    cases e
    have cl := cut_len ds
    have big : (1000 : Nat) ≤ sizeLine := by decide
    fail "z"
    · have a1 := cl none (some (i : Int))
      have a2 := cl (some ((i : Int) + 1)) none
      refine rd_plusT (by omega) ⟨rfl, sm_mk (by rw [List.length_append]; omega) fun e he => ?_⟩
      rcases List.mem_append.mp he with h | h
      · exact smi _ (cut_mem h)
      · exact smi _ (cut_mem h)
    · have a1 := cl none (some (i : Int))
      have a2 := cl (some (i : Int)) none
      refine rd_plusT (by show _ + 1 ≤ _; omega) ?_
      fail "z"
      refine rd_plusT (by rw [List.length_append]; show _ + 1 + _ ≤ _; omega) ⟨rfl, sm_mk (by rw [List.length_append, List.length_append]; show _ + 1 + _ ≤ _; omega) fun e he => ?_⟩
      rcases List.mem_append.mp he with h | h
      · rcases List.mem_append.mp h with h | h
        · exact smi _ (cut_mem h)
        · obtain rfl := List.mem_singleton.mp h
          exact hx
      · exact smi _ (cut_mem h)
    · exact sm_mk (by rw [List.length_reverse]; omega) fun e he => smi _ (List.mem_reverse.mp he)
    · have a1 := cl none (some (i : Int))
      have a2 := cl (some ((i : Int) + 1)) none
      have mem : ds[i] ∈ ds := List.getElem_mem il
      refine rd_ixT (d := ds[i]) (at_nat (List.getElem?_eq_getElem il)) ?_
      fail "z"
      refine ⟨⟨ds[i], m, (by rw [show (n : Int) - 1 = (j' : Int) by omega]), fine_items fd _ mem, hm, hits _ mem⟩, ?_⟩
      rintro y hy
      fail "z"
      refine rd_plusT (by show _ + 1 ≤ _; omega) ?_
      fail "z"
      refine rd_plusT (by rw [List.length_append]; show _ + 1 + _ ≤ _; omega) ⟨rfl, sm_mk (by rw [List.length_append, List.length_append]; show _ + 1 + _ ≤ _; omega) fun e he => ?_⟩
      rcases List.mem_append.mp he with h | h
      · rcases List.mem_append.mp h with h | h
        · exact smi _ (cut_mem h)
        · obtain rfl := List.mem_singleton.mp h
          exact hy
      · exact smi _ (cut_mem h)
end


abbrev sLaw : Stmt := tp 29
theorem scsLaw : FnScope ["script", "k", "pile", "letters", "turn", "row", "part", "bent", "truth", "thing", "sign", "found", "x"] ["script"] (defScope sLaw) := ⟨rfl, rfl, rfl, by decide +kernel, rfl, by decide +kernel, by decide +kernel⟩
/-! ### a letter's rows -/
def row1 (c : Nat) : PyData := .tuple [.int 1, .tuple [.tuple [.str ⟨#[c]⟩, .int 0]]]
def row2 (c : Nat) : PyData := .tuple [.int 1, .tuple [.tuple [.str ⟨#[c]⟩, .int 1], .tuple [.str ⟨#[c]⟩, .int 3]]]
def isI (z : Int) : PyData → Bool
  | .int y => decide (y = z)
  | _ => false
theorem isI_eq {z : Int} {d : PyData} (h : isI z d = true) : d = .int z := by
  cases d with
  | int y => rw [of_decide_eq_true h]
  | _ => cases h
theorem abc_dec : ∀ j : Fin 26, (sm (row1 (97 + j.val)) && (rowD (row1 (97 + j.val)) && (sm (row2 (97 + j.val)) && (rowD (row2 (97 + j.val)) && (isLet (.str ⟨#[97 + j.val]⟩) &&
    isI 2 (gapD [.tuple [.str ⟨#[97 + j.val]⟩, .int 1], .tuple [.str ⟨#[97 + j.val]⟩, .int 3]] 1 ⟨#[97 + j.val]⟩)))))) = true := by decide +kernel
theorem abc_all (j : Fin 26) : sm (row1 (97 + j.val)) = true ∧ rowD (row1 (97 + j.val)) = true ∧ sm (row2 (97 + j.val)) = true ∧ rowD (row2 (97 + j.val)) = true ∧ isLet (.str ⟨#[97 + j.val]⟩) = true ∧
    gapD [.tuple [.str ⟨#[97 + j.val]⟩, .int 1], .tuple [.str ⟨#[97 + j.val]⟩, .int 3]] 1 ⟨#[97 + j.val]⟩ = .int 2 := by
  have h := abc_dec j
  simp only [Bool.and_eq_true] at h
  exact ⟨h.1, h.2.1, h.2.2.1, h.2.2.2.1, h.2.2.2.2.1, isI_eq h.2.2.2.2.2⟩
theorem abc_cps : ("abcdefghijklmnopqrstuvwxyz" : Str).cps.toList.all (fun c => decide (97 ≤ c ∧ c < 123)) = true := by decide +kernel
theorem abc_sign {m : Nat} {d : PyData} (h : (FD.signs "abcdefghijklmnopqrstuvwxyz")[m]? = some d) : ∃ j : Fin 26, d = .str ⟨#[97 + j.val]⟩ := by
  obtain ⟨c, hc, rfl⟩ := List.mem_map.mp (List.mem_of_getElem? h)
  have := of_decide_eq_true (List.all_eq_true.mp abc_cps c hc)
  exact ⟨⟨c - 97, by omega⟩, by rw [show 97 + (c - 97) = c by omega]⟩
theorem tick_sm : sm (row1 96) = true := by decide +kernel
theorem tick_no : rowD (row1 96) = false := by decide +kernel
theorem tock_sm : sm (row1 123) = true := by decide +kernel
theorem tock_no : rowD (row1 123) = false := by decide +kernel
def manyD : PyData := .tuple [.int 1, .tuple (List.replicate (61 : Int).toNat [PyData.tuple [.str "a", .int 0]]).flatten]
theorem many_sm : sm manyD = true := by decide +kernel
theorem many_row : rowD manyD = true := by decide +kernel
def muchD : PyData := .tuple [.int 1, .tuple ((List.replicate (60 : Int).toNat [PyData.tuple [.str "a", .int 1]]).flatten ++ [.tuple [.str "a", .int 0]])]
theorem much_sm : sm muchD = true := by decide +kernel
theorem much_row : rowD muchD = false := by decide +kernel
def evs3 : List PyData := [.tuple [.str "a", .int 15], .tuple [.str "b", .int 15], .tuple [.str "a", .int 42]]
theorem row3_sm : sm (.tuple [.int 10, .tuple evs3]) = true := by decide +kernel
theorem row3_row : rowD (.tuple [.int 10, .tuple evs3]) = true := by decide +kernel
def gotF : PyData → PyData
  | .str x => gapD evs3 2 x
  | _ => .none
theorem isN_eq {d : PyData} (h : FD.isNone d = true) : d = .none := by
  cases d with
  | none => rfl
  | _ => cases h
theorem four_got : [PyData.str "a", .str "b", .str "", .str "c"].map gotF = [.int 27, .int 27, .int 42, .none] := by
  show [gapD evs3 2 "a", gapD evs3 2 "b", gapD evs3 2 "", gapD evs3 2 "c"] = _
  rw [isI_eq (z := 27) (by decide +kernel : isI 27 (gapD evs3 2 "a") = true), isI_eq (z := 27) (by decide +kernel : isI 27 (gapD evs3 2 "b") = true), isI_eq (z := 42) (by decide +kernel : isI 42 (gapD evs3 2 "") = true),
    isN_eq (by decide +kernel : FD.isNone (gapD evs3 2 "c") = true)]
theorem got0 : gapD evs3 0 "a" = .none := isN_eq (by decide +kernel)
theorem got1 : gapD evs3 1 "a" = .int 0 := isI_eq (by decide +kernel)
section
variable {P : Program} {w : World} {K : PySem.W.Frag} {mg : Str → Option Value} {base : Heap} {f : Addr} {fd : FuncData}
theorem ok_law (F : L2.Fun K "law" "law" sLaw f fd) (bi : Bi mg) (c1 : Cal P w K mg base 3 "is_row" ["thing"] (spF 1 preD fRow)) (c2 : Cal P w K mg base 5 "since" ["row", "i", "x"] (spF 3 preS fSince))
    (c3 : Cal P w K mg base 2 "_law_pile" ["script", "k"] (spN K)) (c4 : Cal P w K mg base 3 "_law_letters" ["pile"] (spP 0 (fun ds => ds = []) fun _ d => d = .str "a" ∨ d = .str "ab"))
    (c5 : Cal P w K mg base 3 "_law_row" ["pile", "letters", "m", "size"] (spP 3 preM fun _ d => RowM d)) (c6 : Cal P w K mg base 2 "_law_take" ["pile", "size"] (spP 1 preT postT))
    (c7 : Cal P w K mg base 6 "_law_good" ["row"] (spF 1 (fun ds => ∃ d, ds = [d] ∧ RowM d) fun _ => .bool true)) (c8 : Cal P w K mg base 6 "_law_bent" ["pile", "thing", "deep"] (spP 2 (preB 3) postB))
    (c9 : Cal P w K mg base 3 "_law_is_row" ["thing"] (spF 1 preD fRow)) (c10 : Cal P w K mg base 1 "_law_bad_rows" [] (spF 0 (fun ds => ds = []) fun _ => .list badRows)) :
    FnG P w K mg base 7 f fd ["script"] (spL K) := by
  refine fnL F scsLaw rfl fun cdv A outer s H hg hr => ?_
  refine' ⟨_, ?h1, ?h2⟩
  case h1 =>
    have km : KMark K := ⟨⟩
    have nd : (["script", "k", "pile", "letters", "turn", "row", "part", "bent", "truth", "thing", "sign", "found", "x"] : List Str).Nodup := by decide +kernel
    have : (["script", "k", "pile", "letters", "turn", "row", "part", "bent", "truth", "thing", "sign", "found", "x"] : List Str)[0]? = some ("script" : Str) := rfl
    have : (["script", "k", "pile", "letters", "turn", "row", "part", "bent", "truth", "thing", "sign", "found", "x"] : List Str)[1]? = some ("k" : Str) := rfl
    have : (["script", "k", "pile", "letters", "turn", "row", "part", "bent", "truth", "thing", "sign", "found", "x"] : List Str)[2]? = some ("pile" : Str) := rfl
    have : (["script", "k", "pile", "letters", "turn", "row", "part", "bent", "truth", "thing", "sign", "found", "x"] : List Str)[3]? = some ("letters" : Str) := rfl
    have : (["script", "k", "pile", "letters", "turn", "row", "part", "bent", "truth", "thing", "sign", "found", "x"] : List Str)[4]? = some ("turn" : Str) := rfl
    have : (["script", "k", "pile", "letters", "turn", "row", "part", "bent", "truth", "thing", "sign", "found", "x"] : List Str)[5]? = some ("row" : Str) := rfl
    have : (["script", "k", "pile", "letters", "turn", "row", "part", "bent", "truth", "thing", "sign", "found", "x"] : List Str)[6]? = some ("part" : Str) := rfl
    have : (["script", "k", "pile", "letters", "turn", "row", "part", "bent", "truth", "thing", "sign", "found", "x"] : List Str)[7]? = some ("bent" : Str) := rfl
    have : (["script", "k", "pile", "letters", "turn", "row", "part", "bent", "truth", "thing", "sign", "found", "x"] : List Str)[8]? = some ("truth" : Str) := rfl
    have : (["script", "k", "pile", "letters", "turn", "row", "part", "bent", "truth", "thing", "sign", "found", "x"] : List Str)[9]? = some ("thing" : Str) := rfl
    have : (["script", "k", "pile", "letters", "turn", "row", "part", "bent", "truth", "thing", "sign", "found", "x"] : List Str)[10]? = some ("sign" : Str) := rfl
    have : (["script", "k", "pile", "letters", "turn", "row", "part", "bent", "truth", "thing", "sign", "found", "x"] : List Str)[11]? = some ("found" : Str) := rfl
    have : (["script", "k", "pile", "letters", "turn", "row", "part", "bent", "truth", "thing", "sign", "found", "x"] : List Str)[12]? = some ("x" : Str) := rfl
    fail "fTop"
  case h2 =>
    intro p ns hl
    show EvS K _ [some (.script p ns), none, none, none, none, none, none, none, none, none, none, none, none] _
    have cut : ∀ {t u : TS} {e : En} (M : En → Prop), EvS K t e { nx := M, rt := fun _ d => d = .bool true } → (∀ e1, M e1 → EvS K u e1 { nx := fun _ => False, rt := fun _ d => d = .bool true }) →
        EvS K (tSeq t u) e { nx := fun _ => False, rt := fun _ d => d = .bool true } := fun M h1 h2 => es_seq (h1.imp h2 (fun _ _ z => z) (fun _ z => z.elim) (fun _ z => z.elim) (fun _ z => z.elim))
    refine cut (fun e => ∃ v1 v2 v3 v4 v5 v6 v7 v8, e = [some (.script p ns), v1, v2, v3, v4, v5, v6, v7, v8, none, none, none, none]) ?_ ?_
    refine es_for (ei_rng1 ?_)
    fail "z"
    refine ⟨(by omega), ?_⟩
    refine ⟨fun _ e => ∃ v1 v2 v3 v4 v5 v6 v7 v8, e = [some (.script p ns), v1, v2, v3, v4, v5, v6, v7, v8, none, none, none, none], ⟨none, none, none, none, none, none, none, none, rfl⟩, ?_, ?_⟩
    · rintro m d e hd ⟨v1, v2, v3, v4, v5, v6, v7, v8, rfl⟩
      obtain ⟨hm, rfl⟩ := nums_get hd
      refine eg_name (es_seq (es_pile rfl hl (ev_var rfl ⟨rfl, _, rfl, by omega⟩) fun q => ?_))
      show EvS K _ [some (.script p ns), some (.dat (.int (0 + (m : Int)))), some (.pile q), v3, v4, v5, v6, v7, v8, none, none, none, none] _
      fail "z"
      rintro y hL
      obtain ⟨L, rfl, hL2⟩ : ∃ L, y = .str L ∧ (L = "a" ∨ L = "ab") := by
        rcases hL with rfl | rfl
        · exact ⟨_, rfl, .inl rfl⟩
        · exact ⟨_, rfl, .inr rfl⟩
      fail "v"
      refine es_for (ei_rng1 ?_)
      fail "z"
      refine ⟨(by decide), ?_⟩
      refine ⟨fun _ e => ∃ v4 v5 v6 v7 v8, e = [some (.script p ns), some (.dat (.int (0 + (m : Int)))), some (.pile q), some (.dat (.str L)), v4, v5, v6, v7, v8, none, none, none, none], ⟨_, _, _, _, _, rfl⟩, ?_, ?_⟩
      · rintro m2 d e hd2 ⟨w4, w5, w6, w7, w8, rfl⟩
        refine eg_name ?_
        fail "z"
        refine ⟨⟨9, rfl, by decide, by decide⟩, ?_⟩
        rintro y ⟨n', z, e, rfl, z0, z1⟩
        cases e
        fail "z"
        refine ⟨⟨L, z, rfl, hL2, z0, by omega⟩, ?_⟩
        rintro row hrow
        fail "z"
        refine ⟨⟨row, rfl, hrow⟩, ?_⟩
        fail "z"
        refine es_for (ei_rng1 ?_)
        fail "z"
        refine ⟨(by decide), ?_⟩
        refine ⟨fun _ e => ∃ v6 v7 v8, e = [some (.script p ns), some (.dat (.int (0 + (m : Int)))), some (.pile q), some (.dat (.str L)), some (.dat d), some (.dat row), v6, v7, v8, none, none, none, none], ⟨_, _, _, rfl⟩, ?_, ?_⟩
        · rintro m3 d3 e hd3 ⟨x6, x7, x8, rfl⟩
          refine eg_name ?_
          fail "z"
          refine ⟨⟨row, 3, rfl, rowM_fine hrow, by decide, rowM_sm hrow⟩, ?_⟩
          rintro b hb
          fail "z"
          refine ⟨⟨b, rfl, hb⟩, ?_⟩
          show EvG K (gName 8) (.bool (rowD b)) _ _
          fail "z"
          refine ⟨⟨b, rfl, hb⟩, ?_⟩
          show RD K (rNeA K) _ (.bool (rowD b)) (.bool (rowD b)) _
          refine rd_neA (by rfl) (by rfl) ?_
          rw [show PyData.eqv (.bool (rowD b)) (.bool (rowD b)) = true from by cases rowD b <;> rfl]
          fail "z"
          exact ⟨_, _, _, rfl⟩
        · rintro e ⟨x6, x7, x8, rfl⟩
          exact ⟨_, _, _, _, _, rfl⟩
      · rintro e ⟨w4, w5, w6, w7, w8, rfl⟩
        exact ⟨_, _, _, _, _, _, _, _, rfl⟩
    · exact fun e h => h
    · rintro e ⟨v1, v2, v3, v4, v5, v6, v7, v8, rfl⟩
      refine cut (fun e => e = [some (.script p ns), v1, v2, v3, v4, v5, v6, v7, v8, none, none, none, none]) ?_ ?_
      · refine es_if (ev_test (ev_op (ev_filter rowD (ei_list (ev_callF (ea_nil ⟨rfl, rfl, badRows, rfl, by decide +kernel, (by show 9 < 13; decide), fun d hd => ?_, ?_⟩))))))
        · fail "z"
          refine ⟨⟨d, rfl, bad_sm d hd⟩, ?_⟩
          fail "v1"
          show RD K rIsNotAny _ (.bool (rowD d)) _ _
          fail "z"
          cases rowD d <;> rfl
        · rw [bad_none]
          fail "z"
          rfl
      rintro e rfl
      refine cut (fun e => ∃ s10, e = [some (.script p ns), v1, v2, v3, v4, v5, v6, v7, v8, none, s10, none, none]) ?_ ?_
      · refine es_for (ei_str (ev_str ⟨_, rfl, ?_⟩))
        refine ⟨fun _ e => ∃ s10, e = [some (.script p ns), v1, v2, v3, v4, v5, v6, v7, v8, none, s10, none, none], ⟨none, rfl⟩, ?_, ?_⟩
        · rintro m d e hd ⟨s10, rfl⟩
          obtain ⟨j, rfl⟩ := abc_sign hd
          obtain ⟨k1, k2, k3, k4, k5, k6⟩ := abc_all j
          refine eg_name ?_
          fail "z"
          refine ⟨⟨_, rfl, k1⟩, ?_⟩
          fail "v1"
          show RD K rIsNotAny _ (.bool (rowD (row1 (97 + j.val)))) _ _
          rw [k2]
          fail "z"
          refine ⟨⟨.int 1, _, 1, _, rfl, k3, k4, (by show 1 < 2; decide), .inr k5⟩, ?_⟩
          fail "v1"
          show RD K (rNeA K) _ (gapD [.tuple [.str ⟨#[97 + j.val]⟩, .int 1], .tuple [.str ⟨#[97 + j.val]⟩, .int 3]] 1 ⟨#[97 + j.val]⟩) _ _
          rw [k6]
          fail "z"
          exact ⟨_, rfl⟩
        · exact fun e h => h
      rintro e ⟨s10, rfl⟩
      refine cut (fun e => e = [some (.script p ns), v1, v2, v3, v4, v5, v6, v7, v8, none, s10, none, none]) ?_ ?_
      · fail "z"
        refine ⟨⟨_, rfl, tick_sm⟩, ?_⟩
        fail "v1"
        show RD K rIsNotAny _ (.bool (rowD (row1 96))) _ _
        rw [tick_no]
        fail "z"
        refine ⟨⟨_, rfl, tock_sm⟩, ?_⟩
        fail "v1"
        show RD K rIsNotAny _ (.bool (rowD (row1 123))) _ _
        rw [tock_no]
        fail "z"
        rfl
      rintro e rfl
      refine cut (fun e => e = [some (.script p ns), v1, v2, v3, v4, v5, v6, v7, v8, none, s10, none, none]) ?_ ?_
      · fail "z"
        refine rd_timesT (by simp) (by decide) (by decide) (by decide) ?_
        fail "z"
        refine ⟨⟨_, rfl, many_sm⟩, ?_⟩
        fail "v1"
        show RD K rIsNotAny _ (.bool (rowD manyD)) _ _
        rw [many_row]
        fail "z"
        refine rd_timesT (by simp) (by decide) (by decide) (by decide) ?_
        fail "z"
        refine ⟨⟨_, rfl, much_sm⟩, ?_⟩
        fail "v1"
        show RD K rIsNotAny _ (.bool (rowD muchD)) _ _
        rw [much_row]
        fail "z"
        rfl
      rintro e rfl
      fail "z"
      refine ev_map gotF (ei_list ?_)
      fail "v"
      refine ⟨(by show 4 ≤ sizeLine; decide), ?_⟩
      fail "v"
      refine ⟨(by show 4 ≤ 100000; decide), fun d hd => ?_, ?_⟩
      · obtain ⟨x, rfl, hx⟩ : ∃ x : Str, d = .str x ∧ (x = "" ∨ isLet (.str x) = true) := by
          have h4 : d = .str "a" ∨ d = .str "b" ∨ d = .str "" ∨ d = .str "c" := by simpa using hd
          rcases h4 with rfl | rfl | rfl | rfl
          · exact ⟨_, rfl, .inr (by decide +kernel)⟩
          · exact ⟨_, rfl, .inr (by decide +kernel)⟩
          · exact ⟨_, rfl, .inl rfl⟩
          · exact ⟨_, rfl, .inr (by decide +kernel)⟩
        fail "z"
        exact ⟨⟨.int 10, evs3, 2, x, rfl, row3_sm, row3_row, (by show 2 < 3; decide), hx⟩, rfl, rfl⟩
      rw [four_got]
      fail "z"
      refine ⟨⟨.int 10, evs3, 0, "a", rfl, row3_sm, row3_row, (by show 0 < 3; decide), .inr (by decide +kernel)⟩, ?_⟩
      fail "v1"
      show RD K rIsAny _ (gapD evs3 0 "a") _ _
      rw [got0]
      fail "z"
      refine ⟨⟨.int 10, evs3, 1, "a", rfl, row3_sm, row3_row, (by show 1 < 3; decide), .inr (by decide +kernel)⟩, ?_⟩
      fail "v1"
      show RD K (rEqA K) _ (gapD evs3 1 "a") _ _
      rw [got1]
      fail "z"
      all_goals rfl
end


/-! ### what the top has written -/
theorem all_mk {l : PySem.W.OpenLaw} {w : World} {K : PySem.W.Frag} {h : Heap} {mg : Str → Option Value} {fa f1 f2 f3 f4 f5 f6 f7 f8 f9 f10 f11 f12 f13 f14 f15 f16 f17 f18 f19 f20 f21 f22 : Addr} (X : K.In h) (G : h.Ns mainGlobals mg) (hfa : mg "law" = some (.ref fa))
    {od1 an1 od2 an2 od3 an3 od4 an4 od5 an5 od6 an6 od7 an7 od8 an8 od9 an9 od10 an10 od11 an11 od12 an12 od13 an13 od14 an14 od15 an15 od16 an16 od17 an17 od18 an18 od19 an19 od20 an20 od21 an21 od22 an22 : Option Addr} {sl1 sl2 sl3 sl4 sl5 sl6 sl7 sl8 sl9 sl10 sl11 sl12 sl13 sl14 sl15 sl16 sl17 sl18 sl19 sl20 sl21 sl22 : Array (Option Value)} {oc1 kV1 dc1 pm1 cd1 ct1 oc2 kV2 dc2 pm2 cd2 ct2 oc3 kV3 dc3 pm3 cd3 ct3 oc4 kV4 dc4 pm4 cd4 ct4 oc5 kV5 dc5 pm5 cd5 ct5 oc6 kV6 dc6 pm6 cd6 ct6 oc7 kV7 dc7 pm7 cd7 ct7 oc8 kV8 dc8 pm8 cd8 ct8 oc9 kV9 dc9 pm9 cd9 ct9 oc10 kV10 dc10 pm10 cd10 ct10 oc11 kV11 dc11 pm11 cd11 ct11 oc12 kV12 dc12 pm12 cd12 ct12 oc13 kV13 dc13 pm13 cd13 ct13 oc14 kV14 dc14 pm14 cd14 ct14 oc15 kV15 dc15 pm15 cd15 ct15 oc16 kV16 dc16 pm16 cd16 ct16 oc17 kV17 dc17 pm17 cd17 ct17 oc18 kV18 dc18 pm18 cd18 ct18 oc19 kV19 dc19 pm19 cd19 ct19 oc20 kV20 dc20 pm20 cd20 ct20 oc21 kV21 dc21 pm21 cd21 ct21 oc22 kV22 dc22 pm22 cd22 ct22 : Value}
    (a1 : PySem.W.nsIn K mainGlobals "is_number" = some (some (.ref f1))) (l1 : K.lookup f1 = some ⟨oc1, od1, .func (PySem.W.fnOf "is_number" "is_number" (defArgs sNum) (defBody sNum) (defScope sNum) .none kV1 dc1 pm1 an1 cd1 ct1), sl1⟩) (c1 : PySem.W.codeIn K cd1 "is_number" = true) (k1 : PySem.W.keepIn K (.ref f1) = true)
    (a2 : PySem.W.nsIn K mainGlobals "is_tuple" = some (some (.ref f2))) (l2 : K.lookup f2 = some ⟨oc2, od2, .func (PySem.W.fnOf "is_tuple" "is_tuple" (defArgs sTup) (defBody sTup) (defScope sTup) .none kV2 dc2 pm2 an2 cd2 ct2), sl2⟩) (c2 : PySem.W.codeIn K cd2 "is_tuple" = true) (k2 : PySem.W.keepIn K (.ref f2) = true)
    (a3 : PySem.W.nsIn K mainGlobals "is_letter" = some (some (.ref f3))) (l3 : K.lookup f3 = some ⟨oc3, od3, .func (PySem.W.fnOf "is_letter" "is_letter" (defArgs sLet) (defBody sLet) (defScope sLet) .none kV3 dc3 pm3 an3 cd3 ct3), sl3⟩) (c3 : PySem.W.codeIn K cd3 "is_letter" = true) (k3 : PySem.W.keepIn K (.ref f3) = true)
    (a4 : PySem.W.nsIn K mainGlobals "is_event" = some (some (.ref f4))) (l4 : K.lookup f4 = some ⟨oc4, od4, .func (PySem.W.fnOf "is_event" "is_event" (defArgs sEvt) (defBody sEvt) (defScope sEvt) .none kV4 dc4 pm4 an4 cd4 ct4), sl4⟩) (c4 : PySem.W.codeIn K cd4 "is_event" = true) (k4 : PySem.W.keepIn K (.ref f4) = true)
    (a5 : PySem.W.nsIn K mainGlobals "is_row" = some (some (.ref f5))) (l5 : K.lookup f5 = some ⟨oc5, od5, .func (PySem.W.fnOf "is_row" "is_row" (defArgs sRow) (defBody sRow) (defScope sRow) .none kV5 dc5 pm5 an5 cd5 ct5), sl5⟩) (c5 : PySem.W.codeIn K cd5 "is_row" = true) (k5 : PySem.W.keepIn K (.ref f5) = true)
    (a6 : PySem.W.nsIn K mainGlobals "check_row" = some (some (.ref f6))) (l6 : K.lookup f6 = some ⟨oc6, od6, .func (PySem.W.fnOf "check_row" "check_row" (defArgs sChk) (defBody sChk) (defScope sChk) .none kV6 dc6 pm6 an6 cd6 ct6), sl6⟩) (c6 : PySem.W.codeIn K cd6 "check_row" = true) (k6 : PySem.W.keepIn K (.ref f6) = true)
    (a7 : PySem.W.nsIn K mainGlobals "last_times" = some (some (.ref f7))) (l7 : K.lookup f7 = some ⟨oc7, od7, .func (PySem.W.fnOf "last_times" "last_times" (defArgs sLast) (defBody sLast) (defScope sLast) .none kV7 dc7 pm7 an7 cd7 ct7), sl7⟩) (c7 : PySem.W.codeIn K cd7 "last_times" = true) (k7 : PySem.W.keepIn K (.ref f7) = true)
    (a8 : PySem.W.nsIn K mainGlobals "since" = some (some (.ref f8))) (l8 : K.lookup f8 = some ⟨oc8, od8, .func (PySem.W.fnOf "since" "since" (defArgs sSince) (defBody sSince) (defScope sSince) .none kV8 dc8 pm8 an8 cd8 ct8), sl8⟩) (c8 : PySem.W.codeIn K cd8 "since" = true) (k8 : PySem.W.keepIn K (.ref f8) = true)
    (a9 : PySem.W.nsIn K mainGlobals "_law_mixed" = some (some (.ref f9))) (l9 : K.lookup f9 = some ⟨oc9, od9, .func (PySem.W.fnOf "_law_mixed" "_law_mixed" (defArgs sMix) (defBody sMix) (defScope sMix) .none kV9 dc9 pm9 an9 cd9 ct9), sl9⟩) (c9 : PySem.W.codeIn K cd9 "_law_mixed" = true) (k9 : PySem.W.keepIn K (.ref f9) = true)
    (a10 : PySem.W.nsIn K mainGlobals "_law_pile" = some (some (.ref f10))) (l10 : K.lookup f10 = some ⟨oc10, od10, .func (PySem.W.fnOf "_law_pile" "_law_pile" (defArgs sPile) (defBody sPile) (defScope sPile) .none kV10 dc10 pm10 an10 cd10 ct10), sl10⟩) (c10 : PySem.W.codeIn K cd10 "_law_pile" = true) (k10 : PySem.W.keepIn K (.ref f10) = true)
    (a11 : PySem.W.nsIn K mainGlobals "_law_take" = some (some (.ref f11))) (l11 : K.lookup f11 = some ⟨oc11, od11, .func (PySem.W.fnOf "_law_take" "_law_take" (defArgs sTake) (defBody sTake) (defScope sTake) .none kV11 dc11 pm11 an11 cd11 ct11), sl11⟩) (c11 : PySem.W.codeIn K cd11 "_law_take" = true) (k11 : PySem.W.keepIn K (.ref f11) = true)
    (a12 : PySem.W.nsIn K mainGlobals "_law_whole" = some (some (.ref f12))) (l12 : K.lookup f12 = some ⟨oc12, od12, .func (PySem.W.fnOf "_law_whole" "_law_whole" (defArgs sWhole) (defBody sWhole) (defScope sWhole) .none kV12 dc12 pm12 an12 cd12 ct12), sl12⟩) (c12 : PySem.W.codeIn K cd12 "_law_whole" = true) (k12 : PySem.W.keepIn K (.ref f12) = true)
    (a13 : PySem.W.nsIn K mainGlobals "_law_letters" = some (some (.ref f13))) (l13 : K.lookup f13 = some ⟨oc13, od13, .func (PySem.W.fnOf "_law_letters" "_law_letters" (defArgs sLtrs) (defBody sLtrs) (defScope sLtrs) .none kV13 dc13 pm13 an13 cd13 ct13), sl13⟩) (c13 : PySem.W.codeIn K cd13 "_law_letters" = true) (k13 : PySem.W.keepIn K (.ref f13) = true)
    (a14 : PySem.W.nsIn K mainGlobals "_law_row" = some (some (.ref f14))) (l14 : K.lookup f14 = some ⟨oc14, od14, .func (PySem.W.fnOf "_law_row" "_law_row" (defArgs sMkRow) (defBody sMkRow) (defScope sMkRow) .none kV14 dc14 pm14 an14 cd14 ct14), sl14⟩) (c14 : PySem.W.codeIn K cd14 "_law_row" = true) (k14 : PySem.W.keepIn K (.ref f14) = true)
    (a15 : PySem.W.nsIn K mainGlobals "_law_gap" = some (some (.ref f15))) (l15 : K.lookup f15 = some ⟨oc15, od15, .func (PySem.W.fnOf "_law_gap" "_law_gap" (defArgs sGap) (defBody sGap) (defScope sGap) .none kV15 dc15 pm15 an15 cd15 ct15), sl15⟩) (c15 : PySem.W.codeIn K cd15 "_law_gap" = true) (k15 : PySem.W.keepIn K (.ref f15) = true)
    (a16 : PySem.W.nsIn K mainGlobals "_law_is_from" = some (some (.ref f16))) (l16 : K.lookup f16 = some ⟨oc16, od16, .func (PySem.W.fnOf "_law_is_from" "_law_is_from" (defArgs sFrom) (defBody sFrom) (defScope sFrom) .none kV16 dc16 pm16 an16 cd16 ct16), sl16⟩) (c16 : PySem.W.codeIn K cd16 "_law_is_from" = true) (k16 : PySem.W.keepIn K (.ref f16) = true)
    (a17 : PySem.W.nsIn K mainGlobals "_law_is_letter" = some (some (.ref f17))) (l17 : K.lookup f17 = some ⟨oc17, od17, .func (PySem.W.fnOf "_law_is_letter" "_law_is_letter" (defArgs sLetL) (defBody sLetL) (defScope sLetL) .none kV17 dc17 pm17 an17 cd17 ct17), sl17⟩) (c17 : PySem.W.codeIn K cd17 "_law_is_letter" = true) (k17 : PySem.W.keepIn K (.ref f17) = true)
    (a18 : PySem.W.nsIn K mainGlobals "_law_is_row" = some (some (.ref f18))) (l18 : K.lookup f18 = some ⟨oc18, od18, .func (PySem.W.fnOf "_law_is_row" "_law_is_row" (defArgs sRowL) (defBody sRowL) (defScope sRowL) .none kV18 dc18 pm18 an18 cd18 ct18), sl18⟩) (c18 : PySem.W.codeIn K cd18 "_law_is_row" = true) (k18 : PySem.W.keepIn K (.ref f18) = true)
    (a19 : PySem.W.nsIn K mainGlobals "_law_bad_rows" = some (some (.ref f19))) (l19 : K.lookup f19 = some ⟨oc19, od19, .func (PySem.W.fnOf "_law_bad_rows" "_law_bad_rows" (defArgs sBad) (defBody sBad) (defScope sBad) .none kV19 dc19 pm19 an19 cd19 ct19), sl19⟩) (c19 : PySem.W.codeIn K cd19 "_law_bad_rows" = true) (k19 : PySem.W.keepIn K (.ref f19) = true)
    (a20 : PySem.W.nsIn K mainGlobals "_law_bent" = some (some (.ref f20))) (l20 : K.lookup f20 = some ⟨oc20, od20, .func (PySem.W.fnOf "_law_bent" "_law_bent" (defArgs sBent) (defBody sBent) (defScope sBent) .none kV20 dc20 pm20 an20 cd20 ct20), sl20⟩) (c20 : PySem.W.codeIn K cd20 "_law_bent" = true) (k20 : PySem.W.keepIn K (.ref f20) = true)
    (a21 : PySem.W.nsIn K mainGlobals "_law_good" = some (some (.ref f21))) (l21 : K.lookup f21 = some ⟨oc21, od21, .func (PySem.W.fnOf "_law_good" "_law_good" (defArgs sGood) (defBody sGood) (defScope sGood) .none kV21 dc21 pm21 an21 cd21 ct21), sl21⟩) (c21 : PySem.W.codeIn K cd21 "_law_good" = true) (k21 : PySem.W.keepIn K (.ref f21) = true)
    (a22 : PySem.W.nsIn K mainGlobals "law" = some (some (.ref f22))) (l22 : K.lookup f22 = some ⟨oc22, od22, .func (PySem.W.fnOf "law" "law" (defArgs sLaw) (defBody sLaw) (defScope sLaw) .none kV22 dc22 pm22 an22 cd22 ct22), sl22⟩) (c22 : PySem.W.codeIn K cd22 "law" = true) (k22 : PySem.W.keepIn K (.ref f22) = true)
    (z1 : PySem.W.nsIn K mainGlobals "len" = some none) (z2 : PySem.W.nsIn K mainGlobals "isinstance" = some none) (z3 : PySem.W.nsIn K mainGlobals "int" = some none) (z4 : PySem.W.nsIn K mainGlobals "bool" = some none) (z5 : PySem.W.nsIn K mainGlobals "str" = some none) (z6 : PySem.W.nsIn K mainGlobals "tuple" = some none) (z7 : PySem.W.nsIn K mainGlobals "list" = some none) (z8 : PySem.W.nsIn K mainGlobals "all" = some none) (z9 : PySem.W.nsIn K mainGlobals "repr" = some none) (z10 : PySem.W.nsIn K mainGlobals "sum" = some none) (z11 : PySem.W.nsIn K mainGlobals "min" = some none) (z12 : PySem.W.nsIn K mainGlobals "max" = some none) (z13 : PySem.W.nsIn K mainGlobals "range" = some none) :
    ∃ fd : FuncData, (∀ (s : Shared) (v : Value), BindsTo s fd ⟨[v], []⟩ [("script", v)]) ∧ ∀ base : Heap, K.In base → base.Ns mainGlobals mg → FnG l.prog w K mg base 7 fa fd ["script"] (spL K) := by
  have e := hfa.symm.trans (PySem.W.mg_of X G a22)
  cases e
  have bi : Bi mg := ⟨PySem.W.mg_none_of X G z1, PySem.W.mg_none_of X G z2, PySem.W.mg_none_of X G z3, PySem.W.mg_none_of X G z4, PySem.W.mg_none_of X G z5, PySem.W.mg_none_of X G z6, PySem.W.mg_none_of X G z7, PySem.W.mg_none_of X G z8, PySem.W.mg_none_of X G z9, PySem.W.mg_none_of X G z10, PySem.W.mg_none_of X G z11, PySem.W.mg_none_of X G z12, PySem.W.mg_none_of X G z13⟩
  have F1 := fun_mk (st := sNum) l1 c1 k1
  have F2 := fun_mk (st := sTup) l2 c2 k2
  have F3 := fun_mk (st := sLet) l3 c3 k3
  have F4 := fun_mk (st := sEvt) l4 c4 k4
  have F5 := fun_mk (st := sRow) l5 c5 k5
  have F6 := fun_mk (st := sChk) l6 c6 k6
  have F7 := fun_mk (st := sLast) l7 c7 k7
  have F8 := fun_mk (st := sSince) l8 c8 k8
  have F9 := fun_mk (st := sMix) l9 c9 k9
  have F10 := fun_mk (st := sPile) l10 c10 k10
  have F11 := fun_mk (st := sTake) l11 c11 k11
  have F12 := fun_mk (st := sWhole) l12 c12 k12
  have F13 := fun_mk (st := sLtrs) l13 c13 k13
  have F14 := fun_mk (st := sMkRow) l14 c14 k14
  have F15 := fun_mk (st := sGap) l15 c15 k15
  have F16 := fun_mk (st := sFrom) l16 c16 k16
  have F17 := fun_mk (st := sLetL) l17 c17 k17
  have F18 := fun_mk (st := sRowL) l18 c18 k18
  have F19 := fun_mk (st := sBad) l19 c19 k19
  have F20 := fun_mk (st := sBent) l20 c20 k20
  have F21 := fun_mk (st := sGood) l21 c21 k21
  have F22 := fun_mk (st := sLaw) l22 c22 k22
  have b1 := F1.binds (ps := ["thing", "least"]) fun _ _ _ _ _ _ us hl => match us, hl with | [_, _], _ => rfl
  have b2 := F2.binds (ps := ["thing", "size"]) fun _ _ _ _ _ _ us hl => match us, hl with | [_, _], _ => rfl
  have b3 := F3.binds (ps := ["thing"]) fun _ _ _ _ _ _ us hl => match us, hl with | [_], _ => rfl
  have b4 := F4.binds (ps := ["thing"]) fun _ _ _ _ _ _ us hl => match us, hl with | [_], _ => rfl
  have b5 := F5.binds (ps := ["thing"]) fun _ _ _ _ _ _ us hl => match us, hl with | [_], _ => rfl
  have b6 := F6.binds (ps := ["row"]) fun _ _ _ _ _ _ us hl => match us, hl with | [_], _ => rfl
  have b7 := F7.binds (ps := ["events"]) fun _ _ _ _ _ _ us hl => match us, hl with | [_], _ => rfl
  have b8 := F8.binds (ps := ["row", "i", "x"]) fun _ _ _ _ _ _ us hl => match us, hl with | [_, _, _], _ => rfl
  have b9 := F9.binds (ps := ["cell", "k"]) fun _ _ _ _ _ _ us hl => match us, hl with | [_, _], _ => rfl
  have b10 := F10.binds (ps := ["script", "k"]) fun _ _ _ _ _ _ us hl => match us, hl with | [_, _], _ => rfl
  have b11 := F11.binds (ps := ["pile", "size"]) fun _ _ _ _ _ _ us hl => match us, hl with | [_, _], _ => rfl
  have b12 := F12.binds (ps := ["thing"]) fun _ _ _ _ _ _ us hl => match us, hl with | [_], _ => rfl
  have b13 := F13.binds (ps := ["pile"]) fun _ _ _ _ _ _ us hl => match us, hl with | [_], _ => rfl
  have b14 := F14.binds (ps := ["pile", "letters", "m", "size"]) fun _ _ _ _ _ _ us hl => match us, hl with | [_, _, _, _], _ => rfl
  have b15 := F15.binds (ps := ["events", "i", "x"]) fun _ _ _ _ _ _ us hl => match us, hl with | [_, _, _], _ => rfl
  have b16 := F16.binds (ps := ["thing", "low"]) fun _ _ _ _ _ _ us hl => match us, hl with | [_, _], _ => rfl
  have b17 := F17.binds (ps := ["thing"]) fun _ _ _ _ _ _ us hl => match us, hl with | [_], _ => rfl
  have b18 := F18.binds (ps := ["thing"]) fun _ _ _ _ _ _ us hl => match us, hl with | [_], _ => rfl
  have b19 := F19.binds (ps := []) fun _ _ _ _ _ _ us hl => match us, hl with | [], _ => rfl
  have b20 := F20.binds (ps := ["pile", "thing", "deep"]) fun _ _ _ _ _ _ us hl => match us, hl with | [_, _, _], _ => rfl
  have b21 := F21.binds (ps := ["row"]) fun _ _ _ _ _ _ us hl => match us, hl with | [_], _ => rfl
  refine ⟨PySem.W.fnOf "law" "law" (defArgs sLaw) (defBody sLaw) (defScope sLaw) .none kV22 dc22 pm22 an22 cd22 ct22, fun s v => .of_eq rfl, fun base _ _ => ?_⟩
  have C1 : Cal l.prog w K mg base 1 "is_number" ["thing", "least"] (spF 2 preN fNum) := ⟨⟨_, _, ok_num F1 bi, PySem.W.mg_of X G a1, k1, b1⟩⟩
  have C2 : Cal l.prog w K mg base 1 "is_tuple" ["thing", "size"] (spF 2 preN fTup) := ⟨⟨_, _, ok_tup F2 bi, PySem.W.mg_of X G a2, k2, b2⟩⟩
  have C3 : Cal l.prog w K mg base 1 "is_letter" ["thing"] (spF 1 preD fLet) := ⟨⟨_, _, ok_let F3 bi, PySem.W.mg_of X G a3, k3, b3⟩⟩
  have C4 : Cal l.prog w K mg base 2 "is_event" ["thing"] (spF 1 preD fEvt) := ⟨⟨_, _, ok_evt F4 bi C2 C3 C1, PySem.W.mg_of X G a4, k4, b4⟩⟩
  have C5 : Cal l.prog w K mg base 3 "is_row" ["thing"] (spF 1 preD fRow) := ⟨⟨_, _, ok_row F5 bi C2 C4 C1, PySem.W.mg_of X G a5, k5, b5⟩⟩
  have C6 : Cal l.prog w K mg base 4 "check_row" ["row"] (spF 1 preR fun _ => .none) := ⟨⟨_, _, ok_chk F6 bi C5, PySem.W.mg_of X G a6, k6, b6⟩⟩
  have C7 : Cal l.prog w K mg base 1 "last_times" ["events"] (spD 1 preL postL) := ⟨⟨_, _, ok_last F7 bi, PySem.W.mg_of X G a7, k7, b7⟩⟩
  have C8 : Cal l.prog w K mg base 5 "since" ["row", "i", "x"] (spF 3 preS fSince) := ⟨⟨_, _, ok_since F8 bi C6 C1 C3 C7, PySem.W.mg_of X G a8, k8, b8⟩⟩
  have C9 : Cal l.prog w K mg base 1 "_law_mixed" ["cell", "k"] (spD 2 preII postI) := ⟨⟨_, _, ok_mix F9 bi, PySem.W.mg_of X G a9, k9, b9⟩⟩
  have C10 : Cal l.prog w K mg base 2 "_law_pile" ["script", "k"] (spN K) := ⟨⟨_, _, ok_pile F10 bi C9, PySem.W.mg_of X G a10, k10, b10⟩⟩
  have C11 : Cal l.prog w K mg base 2 "_law_take" ["pile", "size"] (spP 1 preT postT) := ⟨⟨_, _, ok_take F11 bi C9, PySem.W.mg_of X G a11, k11, b11⟩⟩
  have C12 : Cal l.prog w K mg base 1 "_law_whole" ["thing"] (spF 1 (fun ds => ∃ d, ds = [d]) fWhole) := ⟨⟨_, _, ok_whole F12 bi, PySem.W.mg_of X G a12, k12, b12⟩⟩
  have C13 : Cal l.prog w K mg base 3 "_law_letters" ["pile"] (spP 0 (fun ds => ds = []) fun _ d => d = .str "a" ∨ d = .str "ab") := ⟨⟨_, _, ok_ltrs F13 bi C11, PySem.W.mg_of X G a13, k13, b13⟩⟩
  have C14 : Cal l.prog w K mg base 3 "_law_row" ["pile", "letters", "m", "size"] (spP 3 preM fun _ d => RowM d) := ⟨⟨_, _, ok_mkrow F14 bi C11, PySem.W.mg_of X G a14, k14, b14⟩⟩
  have C15 : Cal l.prog w K mg base 1 "_law_gap" ["events", "i", "x"] (spF 3 preG fGap) := ⟨⟨_, _, ok_gap F15 bi, PySem.W.mg_of X G a15, k15, b15⟩⟩
  have C16 : Cal l.prog w K mg base 2 "_law_is_from" ["thing", "low"] (spF 2 preN fNum) := ⟨⟨_, _, ok_from F16 bi C12, PySem.W.mg_of X G a16, k16, b16⟩⟩
  have C17 : Cal l.prog w K mg base 1 "_law_is_letter" ["thing"] (spF 1 preD fLet) := ⟨⟨_, _, ok_letL F17 bi, PySem.W.mg_of X G a17, k17, b17⟩⟩
  have C18 : Cal l.prog w K mg base 3 "_law_is_row" ["thing"] (spF 1 preD fRow) := ⟨⟨_, _, ok_rowL F18 bi C16 C17, PySem.W.mg_of X G a18, k18, b18⟩⟩
  have C19 : Cal l.prog w K mg base 1 "_law_bad_rows" [] (spF 0 (fun ds => ds = []) fun _ => .list badRows) := ⟨⟨_, _, ok_bad F19 bi, PySem.W.mg_of X G a19, k19, b19⟩⟩
  have E0 : Cal l.prog w K mg base 2 "_law_bent" ["pile", "thing", "deep"] (spP 2 (fun _ => False) postB) := ⟨⟨_, _, bent_none F20, PySem.W.mg_of X G a20, k20, b20⟩⟩
  have E1 : Cal l.prog w K mg base 3 "_law_bent" ["pile", "thing", "deep"] (spP 2 (preB 0) postB) := ⟨⟨_, _, bent_step (n := 0) F20 bi (by decide) (by decide) C11 E0 (.inl rfl), PySem.W.mg_of X G a20, k20, b20⟩⟩
  have E2 : Cal l.prog w K mg base 4 "_law_bent" ["pile", "thing", "deep"] (spP 2 (preB 1) postB) := ⟨⟨_, _, bent_step (n := 1) F20 bi (by decide) (by decide) C11 E1 (.inr ⟨0, rfl, rfl⟩), PySem.W.mg_of X G a20, k20, b20⟩⟩
  have E3 : Cal l.prog w K mg base 5 "_law_bent" ["pile", "thing", "deep"] (spP 2 (preB 2) postB) := ⟨⟨_, _, bent_step (n := 2) F20 bi (by decide) (by decide) C11 E2 (.inr ⟨1, rfl, rfl⟩), PySem.W.mg_of X G a20, k20, b20⟩⟩
  have E4 : Cal l.prog w K mg base 6 "_law_bent" ["pile", "thing", "deep"] (spP 2 (preB 3) postB) := ⟨⟨_, _, bent_step (n := 3) F20 bi (by decide) (by decide) C11 E3 (.inr ⟨2, rfl, rfl⟩), PySem.W.mg_of X G a20, k20, b20⟩⟩
  have C20 := E4
  have C21 : Cal l.prog w K mg base 6 "_law_good" ["row"] (spF 1 (fun ds => ∃ d, ds = [d] ∧ RowM d) fun _ => .bool true) := ⟨⟨_, _, ok_good F21 bi C5 C8 C15, PySem.W.mg_of X G a21, k21, b21⟩⟩
  exact ok_law F22 bi C5 C8 C10 C13 C14 C11 C21 C20 C18 C19

end K01
open PySem PySem.W PyProof.Rows
set_option maxHeartbeats 0 in
theorem PySem.Challenge.cw_sinceclocks_k01_what_is_a_row_holds : PySem.Challenge.rw_sinceclocks_k01_what_is_a_row.Holds := by
  w_on; o_law; k_head; (case hw => w_witness2)
  k_fill
  refine FD.walkG (k := 7) (x := "script") rfl rfl ⟨rfl, by decide, by decide⟩ (fun w h Y => PySem.W.kIn_of Y) ?F
  case F =>
    intro w mg fa h KX G hmg
    refine' K01.all_mk KX G hmg ?a1 ?l1 ?c1 ?k1 ?a2 ?l2 ?c2 ?k2 ?a3 ?l3 ?c3 ?k3 ?a4 ?l4 ?c4 ?k4 ?a5 ?l5 ?c5 ?k5 ?a6 ?l6 ?c6 ?k6 ?a7 ?l7 ?c7 ?k7 ?a8 ?l8 ?c8 ?k8 ?a9 ?l9 ?c9 ?k9 ?a10 ?l10 ?c10 ?k10 ?a11 ?l11 ?c11 ?k11 ?a12 ?l12 ?c12 ?k12 ?a13 ?l13 ?c13 ?k13 ?a14 ?l14 ?c14 ?k14 ?a15 ?l15 ?c15 ?k15 ?a16 ?l16 ?c16 ?k16 ?a17 ?l17 ?c17 ?k17 ?a18 ?l18 ?c18 ?k18 ?a19 ?l19 ?c19 ?k19 ?a20 ?l20 ?c20 ?k20 ?a21 ?l21 ?c21 ?k21 ?a22 ?l22 ?c22 ?k22 ?z1 ?z2 ?z3 ?z4 ?z5 ?z6 ?z7 ?z8 ?z9 ?z10 ?z11 ?z12 ?z13
    (case a1 => k_is); (case l1 => k_is); (case c1 => k_is); (case k1 => k_is); (case a2 => k_is); (case l2 => k_is); (case c2 => k_is); (case k2 => k_is); (case a3 => k_is); (case l3 => k_is); (case c3 => k_is); (case k3 => k_is); (case a4 => k_is); (case l4 => k_is); (case c4 => k_is); (case k4 => k_is); (case a5 => k_is); (case l5 => k_is); (case c5 => k_is); (case k5 => k_is); (case a6 => k_is); (case l6 => k_is); (case c6 => k_is); (case k6 => k_is); (case a7 => k_is); (case l7 => k_is); (case c7 => k_is); (case k7 => k_is); (case a8 => k_is); (case l8 => k_is); (case c8 => k_is); (case k8 => k_is); (case a9 => k_is); (case l9 => k_is); (case c9 => k_is); (case k9 => k_is); (case a10 => k_is); (case l10 => k_is); (case c10 => k_is); (case k10 => k_is); (case a11 => k_is); (case l11 => k_is); (case c11 => k_is); (case k11 => k_is); (case a12 => k_is); (case l12 => k_is); (case c12 => k_is); (case k12 => k_is); (case a13 => k_is); (case l13 => k_is); (case c13 => k_is); (case k13 => k_is); (case a14 => k_is); (case l14 => k_is); (case c14 => k_is); (case k14 => k_is); (case a15 => k_is); (case l15 => k_is); (case c15 => k_is); (case k15 => k_is); (case a16 => k_is); (case l16 => k_is); (case c16 => k_is); (case k16 => k_is); (case a17 => k_is); (case l17 => k_is); (case c17 => k_is); (case k17 => k_is); (case a18 => k_is); (case l18 => k_is); (case c18 => k_is); (case k18 => k_is); (case a19 => k_is); (case l19 => k_is); (case c19 => k_is); (case k19 => k_is); (case a20 => k_is); (case l20 => k_is); (case c20 => k_is); (case k20 => k_is); (case a21 => k_is); (case l21 => k_is); (case c21 => k_is); (case k21 => k_is); (case a22 => k_is); (case l22 => k_is); (case c22 => k_is); (case k22 => k_is); (case z1 => k_is); (case z2 => k_is); (case z3 => k_is); (case z4 => k_is); (case z5 => k_is); (case z6 => k_is); (case z7 => k_is); (case z8 => k_is); (case z9 => k_is); (case z10 => k_is); (case z11 => k_is); (case z12 => k_is); (case z13 => k_is)
