import PyProof.Rows.All
import Wide.All
import OpenK.AllK
import Wide.FinOn
import PyProof.ReprRoads
import HandS.ForMost
import HandS.Style
import HandS.IsInst
import HandS.TupAny
import HandS.TupMul
import HandS.Wide
import PyProof.StrWalks
import HandS.Conv
import HandS.SetTxt0
import HandS.SetFor
import HandS.More
import HandS.TupSets
import HandS.Comp
import HandS.SetBool
import HandS.Strs
import PyProof.DictMoreH
import HandS.DictComp
import HandS.TupLe
import KE.DatumOrd
import HandS.Star
import HandS.Deep
import HandS.SortKw
import PyProof.CollectStr
import HandS.Replace
import HandS.ExcOwn
import HandS.ExcIs
import HandS.Iter
import PyProof.ExcBaseAll.ValueError
import KE.KeyNested
import HandS.TupLen
import KE.GoesEnum
import PyProof.Truth
import KE.KExcSuper
import KE.KSuper
import HandS.ExcInit
import HandS.FStr
import HandS.ExcField
import KE.KExcIs
import HandS.Text
import HandS.Codes
import PyProof.StrOps2
import PySem.Challenge.RW_sinceclocks_k60_rows_written
set_option Elab.async false
set_option linter.all false
set_option Elab.async false
set_option linter.all false
set_option maxRecDepth 100000
set_option maxHeartbeats 2000000
namespace FD
open PySem PySem.Spec PyProof.Rows L2

/-- a dict's key as data -/
def kD : Key → PyData
  | .inl i => .int i
  | .inr x => .str x
mutual
/-- data that stands in the tracked heap -/
inductive Dd (H : Hp) : V → PyData → Prop
  | non : Dd H .non .none
  | bl (b : Bool) : Dd H (.bl b) (.bool b)
  | int (i : Int) : Dd H (.int i) (.int i)
  | str (x : Str) : Dd H (.str x) (.str x)
  | lst {a : Addr} {xs : List V} {ds : List PyData} : H a = some (.lst xs) → DdAll H xs ds → Dd H (.ref a) (.list ds)
  | tup {a : Addr} {xs : List V} {ds : List PyData} : H a = some (.tup xs) → DdAll H xs ds → Dd H (.ref a) (.tuple ds)
  | dct {a : Addr} {kvs : List (Key × V)} {ds : List (PyData × PyData)} : H a = some (.dK kvs) → DdKv H kvs ds → Dd H (.ref a) (.dict ds)
inductive DdAll (H : Hp) : List V → List PyData → Prop
  | nil : DdAll H [] []
  | cons {v : V} {vs : List V} {d : PyData} {ds : List PyData} : Dd H v d → DdAll H vs ds → DdAll H (v :: vs) (d :: ds)
inductive DdKv (H : Hp) : List (Key × V) → List (PyData × PyData) → Prop
  | nil : DdKv H [] []
  | cons {k : Key} {v : V} {vs : List (Key × V)} {d : PyData} {ds : List (PyData × PyData)} : Dd H v d → DdKv H vs ds → DdKv H ((k, v) :: vs) ((kD k, d) :: ds)
end
/-- a heap that knows more -/
def Ex (H H' : Hp) : Prop := ∀ a o, H a = some o → H' a = some o
theorem Ex.refl (H : Hp) : Ex H H := fun _ _ h => h
theorem Ex.trans {H H1 H2 : Hp} (a : Ex H H1) (b : Ex H1 H2) : Ex H H2 := fun x o h => b x o (a x o h)
theorem Ex.new {H : Hp} {p : Addr} {o : HO} (h : H p = none) : Ex H (upd H p o) := fun a u e => by
  rw [upd_ne (ne_of_none e h)]
  exact e
theorem Ex.fresh {H H' : Hp} {p : Addr} (e : Ex H H') (h : H' p = none) : H p = none := by
  cases h1 : H p with
  | none => rfl
  | some o => rw [e p o h1] at h; cases h

section
variable {H H' : Hp}
mutual
theorem Dd.mono (e : Ex H H') : ∀ (d : PyData) (v : V), Dd H v d → Dd H' v d
  | .none, _, h => by cases h; exact .non
  | .bool b, _, h => by cases h; exact .bl b
  | .int i, _, h => by cases h; exact .int i
  | .str x, _, h => by cases h; exact .str x
  | .list ds, _, h => by
    cases h with
    | lst h1 h2 => exact .lst (e _ _ h1) (DdAll.mono e ds _ h2)
  | .tuple ds, _, h => by
    cases h with
    | tup h1 h2 => exact .tup (e _ _ h1) (DdAll.mono e ds _ h2)
  | .dict ds, _, h => by
    cases h with
    | dct h1 h2 => exact .dct (e _ _ h1) (DdKv.mono e ds _ h2)
theorem DdAll.mono (e : Ex H H') : ∀ (ds : List PyData) (vs : List V), DdAll H vs ds → DdAll H' vs ds
  | [], _, h => by cases h; exact .nil
  | d :: ds, _, h => by
    cases h with
    | cons h1 h2 => exact .cons (Dd.mono e d _ h1) (DdAll.mono e ds _ h2)
theorem DdKv.mono (e : Ex H H') : ∀ (ds : List (PyData × PyData)) (vs : List (Key × V)), DdKv H vs ds → DdKv H' vs ds
  | [], _, h => by cases h; exact .nil
  | (k, d) :: ds, _, h => by
    cases h with
    | cons h1 h2 => exact .cons (Dd.mono e d _ h1) (DdKv.mono e ds _ h2)
end
theorem Dd.ex {v : V} {d : PyData} (h : Dd H v d) (e : Ex H H') : Dd H' v d := Dd.mono e d v h
theorem DdAll.ex {vs : List V} {ds : List PyData} (h : DdAll H vs ds) (e : Ex H H') : DdAll H' vs ds := DdAll.mono e ds vs h
theorem DdKv.ex {vs : List (Key × V)} {ds : List (PyData × PyData)} (h : DdKv H vs ds) (e : Ex H H') : DdKv H' vs ds := DdKv.mono e ds vs h
theorem DdAll.length : ∀ {vs : List V} {ds : List PyData}, DdAll H vs ds → vs.length = ds.length
  | _, _, .nil => rfl
  | _, _, .cons _ t => by simp [DdAll.length t]
theorem DdAll.get : ∀ {vs : List V} {ds : List PyData} {i : Nat} {d : PyData}, DdAll H vs ds → ds[i]? = some d → ∃ v, vs[i]? = some v ∧ Dd H v d
  | _, _, _, _, .nil, e => by simp at e
  | _, _, 0, _, .cons r _, e => by simp at e; subst e; exact ⟨_, rfl, r⟩
  | _, _, i + 1, d, .cons _ t, e => by
    obtain ⟨u, h1, h2⟩ := DdAll.get (i := i) (d := d) t (by simpa using e)
    exact ⟨u, by simpa using h1, h2⟩
theorem DdAll.append : ∀ {vs ws : List V} {ds es : List PyData}, DdAll H vs ds → DdAll H ws es → DdAll H (vs ++ ws) (ds ++ es)
  | _, _, _, _, .nil, h => h
  | _, _, _, _, .cons r t, h => .cons r (DdAll.append t h)
theorem DdAll.take : ∀ {vs : List V} {ds : List PyData} (n : Nat), DdAll H vs ds → DdAll H (vs.take n) (ds.take n)
  | _, _, 0, _ => .nil
  | _, _, _ + 1, .nil => .nil
  | _, _, n + 1, .cons r t => .cons r (DdAll.take n t)
theorem DdAll.drop : ∀ {vs : List V} {ds : List PyData} (n : Nat), DdAll H vs ds → DdAll H (vs.drop n) (ds.drop n)
  | _, _, 0, h => h
  | _, _, _ + 1, .nil => .nil
  | _, _, n + 1, .cons _ t => DdAll.drop n t
theorem DdAll.reverse {vs : List V} {ds : List PyData} (h : DdAll H vs ds) : DdAll H vs.reverse ds.reverse := by
  induction vs generalizing ds with
  | nil => cases h; exact .nil
  | cons v vs ih =>
    cases h with
    | cons h1 h2 =>
      rw [List.reverse_cons, List.reverse_cons]
      exact (ih h2).append (.cons h1 .nil)
theorem DdAll.rep {vs : List V} {ds : List PyData} (h : DdAll H vs ds) : ∀ k, DdAll H (List.replicate k vs).flatten (List.replicate k ds).flatten
  | 0 => .nil
  | k + 1 => by
    rw [List.replicate_succ, List.replicate_succ, List.flatten_cons, List.flatten_cons]
    exact h.append (DdAll.rep h k)
mutual
def noDict : PyData → Bool
  | .dict _ => false
  | .list ds => noDictAll ds
  | .tuple ds => noDictAll ds
  | _ => true
def noDictAll : List PyData → Bool
  | [] => true
  | d :: ds => noDict d && noDictAll ds
end
mutual
theorem Dd.dp {K : PySem.W.Frag} : ∀ (d : PyData) (v : V), noDict d = true → Dd H v d → Dp K H v d
  | .none, _, _, h => by cases h; exact .non
  | .bool b, _, _, h => by cases h; exact .bl b
  | .int i, _, _, h => by cases h; exact .int i
  | .str x, _, _, h => by cases h; exact .str x
  | .list ds, _, n, h => by
    cases h with
    | lst h1 h2 => exact .lst (SqL.of h1) (DdAll.dp ds _ (by simpa [noDict] using n) h2)
  | .tuple ds, _, n, h => by
    cases h with
    | tup h1 h2 => exact .tup (SqT.of h1) (DdAll.dp ds _ (by simpa [noDict] using n) h2)
  | .dict ds, _, n, h => by simp [noDict] at n
theorem DdAll.dp {K : PySem.W.Frag} : ∀ (ds : List PyData) (vs : List V), noDictAll ds = true → DdAll H vs ds → DpAll K H vs ds
  | [], _, _, h => by cases h; exact .nil
  | d :: ds, _, n, h => by
    cases h with
    | cons h1 h2 =>
      have n' : noDict d = true ∧ noDictAll ds = true := by simpa [noDictAll] using n
      exact .cons (Dd.dp d _ n'.1 h1) (DdAll.dp ds _ n'.2 h2)
end
end

/-! ### slots -/
/-- what a slot holds: data; a list of one's own (that may change); a dict of one's own; the pile (three ints, that change) -/
inductive Sl where
  | dat (d : PyData)
  | own (p : Addr) (ds : List PyData)
  | odc (p : Addr) (ds : List (PyData × PyData))
  | pile (p : Addr)
  | script (p : Addr) (ns : List Int)
  | fro (F : Hp → V → Prop) (m : ∀ {G G' : Hp} {v : V}, Ex G G' → F G v → F G' v)
  | obj (p : Addr) (F : Hp → HO → Prop) (m : ∀ {G G' : Hp} {o : HO}, Ex G G' → F G o → F G' o)
abbrev En := List (Option Sl)
def PileAt (H : Hp) (p : Addr) : Prop := ∃ a b c : Int, H p = some (.lst [.int a, .int b, .int c])
/-- where a def was entered: what was known then, what was frozen of it, which objects it may change -/
structure Bs where
  H : Hp
  G : Hp
  mu : Addr → Prop
def SlOk (K : PySem.W.Frag) (G H : Hp) : V → Sl → Prop
  | v, .dat d => Dd G v d
  | v, .own p ds => v = .ref p ∧ G p = none ∧ ∃ xs, H p = some (.lst xs) ∧ DdAll G xs ds
  | v, .odc p ds => v = .ref p ∧ G p = none ∧ ∃ xs, H p = some (.dK xs) ∧ DdKv G xs ds
  | v, .pile p => v = .ref p ∧ G p = none ∧ PileAt H p
  | v, .script p ns => v = .ref p ∧ SqL K G p (ns.map V.int)
  | v, .fro F _ => F G v
  | v, .obj p F _ => v = .ref p ∧ G p = none ∧ ∃ o, H p = some o ∧ F G o
def Sl.ad : Sl → Option Addr
  | .dat _ => none
  | .own p _ => some p
  | .odc p _ => some p
  | .pile p => some p
  | .script _ _ => none
  | .fro _ _ => none
  | .obj p _ _ => some p
/-- a thing that this call made and may yet change -/
def Sl.fz : Sl → Bool
  | .own _ _ => true
  | .odc _ _ => true
  | .obj _ _ _ => true
  | _ => false
structure EnvOk (K : PySem.W.Frag) (B : Bs) (G H : Hp) (σ : L2.St) (env : En) : Prop where
  exH : Ex G H
  exG : Ex B.G G
  keep : ∀ (q : Addr) (o : HO), B.H q = some o → ¬ B.mu q → H q = some o
  nog : ∀ (q : Addr) (o : HO), B.H q = some o → B.G q = none → G q = none
  there : ∀ (q : Addr) (o : HO), B.H q = some o → ∃ u, H q = some u
  mus : ∀ q : Addr, B.mu q → ∃ o, B.H q = some o
  len : σ.length = env.length
  sl : ∀ (i : Nat) (s : Sl), env[i]? = some (some s) → ∃ v, σ[i]? = some (some v) ∧ SlOk K G H v s
  mine : ∀ (i : Nat) (s : Sl) (p : Addr), env[i]? = some (some s) → s.ad = some p → B.H p = none ∨ (B.mu p ∧ s.fz = false)
  inj : ∀ (i j : Nat) (s t : Sl) (p : Addr), env[i]? = some (some s) → env[j]? = some (some t) → s.ad = some p → t.ad = some p → i = j
/-- the state goes on: frozen things stay, changing ones are told by the environments -/
theorem SqL.ex {K : PySem.W.Frag} {H H' : Hp} {a : Addr} {xs : List V} (h : SqL K H a xs) (e : Ex H H') : SqL K H' a xs := by
  rcases h with (h | ⟨o, h⟩) | h
  · exact .inl (.inl (e _ _ h))
  · exact .inl (.inr ⟨o, e _ _ h⟩)
  · exact .inr h
theorem SlOk.ex {K : PySem.W.Frag} {G H G' H' : Hp} {v : V} {s : Sl} (h : SlOk K G H v s) (e : Ex G G') (n : ∀ p, s.ad = some p → G' p = none) (k : ∀ p o, s.ad = some p → H p = some o → H' p = some o) : SlOk K G' H' v s := by
  cases s with
  | dat d => exact Dd.ex h e
  | own p ds => obtain ⟨h1, h2, xs, h3, h4⟩ := h; exact ⟨h1, n p rfl, xs, k p _ rfl h3, h4.ex e⟩
  | odc p ds => obtain ⟨h1, h2, xs, h3, h4⟩ := h; exact ⟨h1, n p rfl, xs, k p _ rfl h3, h4.ex e⟩
  | pile p => obtain ⟨h1, h2, a, b, c, h3⟩ := h; exact ⟨h1, n p rfl, a, b, c, k p _ rfl h3⟩
  | script p ns => obtain ⟨h1, h2⟩ := h; exact ⟨h1, SqL.ex h2 e⟩
  | fro F m => exact m e h
  | obj p F m => obtain ⟨h1, h2, o, h3, h4⟩ := h; exact ⟨h1, n p rfl, o, k p _ rfl h3, m e h4⟩
theorem SlOk.has {K : PySem.W.Frag} {G H : Hp} {v : V} {s : Sl} {p : Addr} (h : SlOk K G H v s) (e : s.ad = some p) : v = .ref p ∧ G p = none ∧ ∃ o, H p = some o := by
  cases s with
  | dat d => cases e
  | own q ds => cases e; obtain ⟨h1, h2, xs, h3, h4⟩ := h; exact ⟨h1, h2, _, h3⟩
  | odc q ds => cases e; obtain ⟨h1, h2, xs, h3, h4⟩ := h; exact ⟨h1, h2, _, h3⟩
  | pile q => cases e; obtain ⟨h1, h2, a, b, c, h3⟩ := h; exact ⟨h1, h2, _, h3⟩
  | script q ns => cases e
  | fro F m => cases e
  | obj q F m => cases e; obtain ⟨h1, h2, o, h3, h4⟩ := h; exact ⟨h1, h2, _, h3⟩
/-- a new object, frozen at once -/
theorem EnvOk.new {K : PySem.W.Frag} {B : Bs} {G H : Hp} {σ : L2.St} {env : En} (h : EnvOk K B G H σ env) {p : Addr} {o : HO} (n : H p = none) : EnvOk K B (upd G p o) (upd H p o) σ env := by
  have nG : G p = none := h.exH.fresh n
  refine ⟨fun a u e => ?_, h.exG.trans (Ex.new nG), fun q u hq hm => ?_, fun q u hq hg => ?_, fun q u hq => ?_, h.mus, h.len, fun i s e => ?_, h.mine, h.inj⟩
  · by_cases z : a = p
    · subst z; rw [upd_same] at e ⊢; exact e
    · rw [upd_ne z] at e ⊢; exact h.exH a u e
  · have := h.keep q u hq hm
    rw [upd_ne (ne_of_none this n)]; exact this
  · obtain ⟨u', hu⟩ := h.there q u hq
    rw [upd_ne (ne_of_none hu n)]; exact h.nog q u hq hg
  · obtain ⟨u', hu⟩ := h.there q u hq
    exact ⟨u', by rw [upd_ne (ne_of_none hu n)]; exact hu⟩
  · obtain ⟨v, h1, h2⟩ := h.sl i s e
    refine ⟨v, h1, h2.ex (Ex.new nG) (fun q hq => ?_) (fun q u hq hu => ?_)⟩
    · obtain ⟨_, g, o', ho⟩ := h2.has hq
      rw [upd_ne (ne_of_none ho n)]; exact g
    · rw [upd_ne (ne_of_none hu n)]; exact hu
/-- a slot gets data (or is emptied) -/
theorem EnvOk.setD {K : PySem.W.Frag} {B : Bs} {G H : Hp} {σ : L2.St} {env : En} (h : EnvOk K B G H σ env) {i : Nat} {v : V} {d : PyData} (hd : Dd G v d) : EnvOk K B G H (σ.set i (some v)) (env.set i (some (.dat d))) := by
  refine ⟨h.exH, h.exG, h.keep, h.nog, h.there, h.mus, by simp [h.len], fun j s e => ?_, fun j s p e ea => ?_, fun j k s t p e1 e2 a1 a2 => ?_⟩
  · by_cases z : i = j
    · subst z
      have hl : i < env.length := by
        by_cases q : i < env.length
        · exact q
        · rw [List.set_eq_of_length_le (by omega)] at e
          rw [List.getElem?_eq_none (by omega)] at e; cases e
      rw [List.getElem?_set_self hl] at e
      cases e
      exact ⟨v, by rw [List.getElem?_set_self (by rw [h.len]; exact hl)], hd⟩
    · rw [List.getElem?_set_ne z] at e
      obtain ⟨u, h1, h2⟩ := h.sl j s e
      exact ⟨u, by rw [List.getElem?_set_ne z]; exact h1, h2⟩
  · by_cases z : i = j
    · subst z
      by_cases q : i < env.length
      · rw [List.getElem?_set_self q] at e; cases e; cases ea
      · rw [List.set_eq_of_length_le (by omega)] at e; exact h.mine _ _ _ e ea
    · rw [List.getElem?_set_ne z] at e; exact h.mine _ _ _ e ea
  · have g : ∀ {j : Nat} {s : Sl}, (env.set i (some (.dat d)))[j]? = some (some s) → s.ad = some p → env[j]? = some (some s) := fun {j s} e a => by
      by_cases z : i = j
      · subst z
        by_cases q : i < env.length
        · rw [List.getElem?_set_self q] at e; cases e; cases a
        · rw [List.set_eq_of_length_le (by omega)] at e; exact e
      · rw [List.getElem?_set_ne z] at e; exact e
    exact h.inj _ _ _ _ _ (g e1 a1) (g e2 a2) a1 a2
/-- a slot gets a thing of one's own that is new to all -/
theorem EnvOk.setO {K : PySem.W.Frag} {B : Bs} {G H : Hp} {σ : L2.St} {env : En} (h : EnvOk K B G H σ env) {i : Nat} {p : Addr} {s : Sl} (hs : SlOk K G H (.ref p) s) (ha : s.ad = some p) (hB : B.H p = none)
    (hn : ∀ (j : Nat) (t : Sl), env[j]? = some (some t) → t.ad ≠ some p) : EnvOk K B G H (σ.set i (some (.ref p))) (env.set i (some s)) := by
  have g : ∀ {j : Nat} {t : Sl}, (env.set i (some s))[j]? = some (some t) → (i = j ∧ t = s) ∨ (i ≠ j ∧ env[j]? = some (some t)) := fun {j t} e => by
    by_cases z : i = j
    · subst z
      by_cases q : i < env.length
      · rw [List.getElem?_set_self q] at e; cases e; exact .inl ⟨rfl, rfl⟩
      · rw [List.set_eq_of_length_le (by omega)] at e
        rw [List.getElem?_eq_none (by omega)] at e; cases e
    · rw [List.getElem?_set_ne z] at e; exact .inr ⟨z, e⟩
  refine ⟨h.exH, h.exG, h.keep, h.nog, h.there, h.mus, by simp [h.len], fun j t e => ?_, fun j t q e ea => ?_, fun j k t u q e1 e2 a1 a2 => ?_⟩
  · rcases g e with ⟨rfl, rfl⟩ | ⟨z, e'⟩
    · refine ⟨.ref p, ?_, hs⟩
      have hl : i < env.length := by
        by_cases q : i < env.length
        · exact q
        · rw [List.set_eq_of_length_le (by omega)] at e
          rw [List.getElem?_eq_none (by omega)] at e; cases e
      rw [List.getElem?_set_self (by rw [h.len]; exact hl)]
    · obtain ⟨u, h1, h2⟩ := h.sl j t e'
      exact ⟨u, by rw [List.getElem?_set_ne z]; exact h1, h2⟩
  · rcases g e with ⟨rfl, rfl⟩ | ⟨z, e'⟩
    · rw [ha] at ea; cases ea; exact .inl hB
    · exact h.mine _ _ _ e' ea
  · rcases g e1 with ⟨z1, rfl⟩ | ⟨z1, e1'⟩ <;> rcases g e2 with ⟨z2, rfl⟩ | ⟨z2, e2'⟩
    · rw [← z1, ← z2]
    · rw [ha] at a1; cases a1; exact absurd a2 (hn _ _ e2')
    · rw [ha] at a2; cases a2; exact absurd a1 (hn _ _ e1')
    · exact h.inj _ _ _ _ _ e1' e2' a1 a2
/-- a slot is emptied -/
theorem EnvOk.setN {K : PySem.W.Frag} {B : Bs} {G H : Hp} {σ : L2.St} {env : En} (h : EnvOk K B G H σ env) (i : Nat) : EnvOk K B G H (σ.set i none) (env.set i none) := by
  have g : ∀ {j : Nat} {t : Sl}, (env.set i none)[j]? = some (some t) → i ≠ j ∧ env[j]? = some (some t) := fun {j t} e => by
    by_cases z : i = j
    · subst z
      by_cases q : i < env.length
      · rw [List.getElem?_set_self q] at e; cases e
      · rw [List.set_eq_of_length_le (by omega)] at e
        rw [List.getElem?_eq_none (by omega)] at e; cases e
    · rw [List.getElem?_set_ne z] at e; exact ⟨z, e⟩
  refine ⟨h.exH, h.exG, h.keep, h.nog, h.there, h.mus, by simp [h.len], fun j t e => ?_, fun j t q e ea => h.mine _ _ _ (g e).2 ea, fun j k t u q e1 e2 a1 a2 => h.inj _ _ _ _ _ (g e1).2 (g e2).2 a1 a2⟩
  obtain ⟨z, e'⟩ := g e
  obtain ⟨u, h1, h2⟩ := h.sl j t e'
  exact ⟨u, by rw [List.getElem?_set_ne z]; exact h1, h2⟩
/-- a changing thing in slot i changes -/
theorem EnvOk.put {K : PySem.W.Frag} {B : Bs} {G H : Hp} {σ : L2.St} {env : En} (h : EnvOk K B G H σ env) {i : Nat} {p : Addr} {s s' : Sl} {o : HO} (hi : env[i]? = some (some s)) (ha : s.ad = some p) (ha' : s'.ad = some p) (hz : s'.fz = s.fz)
    (hs : SlOk K G (upd H p o) (.ref p) s') : EnvOk K B G (upd H p o) σ (env.set i (some s')) := by
  have hl : i < env.length := by
    by_cases q : i < env.length
    · exact q
    · rw [List.getElem?_eq_none (by omega)] at hi; cases hi
  obtain ⟨v0, hv0, hso⟩ := h.sl i s hi
  obtain ⟨rfl, gp, o0, ho0⟩ := hso.has ha
  have g : ∀ {j : Nat} {t : Sl}, (env.set i (some s'))[j]? = some (some t) → (i = j ∧ t = s') ∨ (i ≠ j ∧ env[j]? = some (some t)) := fun {j t} e => by
    by_cases z : i = j
    · subst z; rw [List.getElem?_set_self hl] at e; cases e; exact .inl ⟨rfl, rfl⟩
    · rw [List.getElem?_set_ne z] at e; exact .inr ⟨z, e⟩
  refine ⟨fun a u e => ?_, h.exG, fun q u hq hm => ?_, h.nog, fun q u hq => ?_, h.mus, by simp [h.len], fun j t e => ?_, fun j t q e ea => ?_, fun j k t u q e1 e2 a1 a2 => ?_⟩
  · rw [upd_ne (fun z => by rw [z, gp] at e; cases e)]; exact h.exH a u e
  · have z : q ≠ p := fun z => by
      subst z
      rcases h.mine i s q hi ha with m | m
      · rw [m] at hq; cases hq
      · exact hm m.1
    rw [upd_ne z]; exact h.keep q u hq hm
  · by_cases z : q = p
    · subst z; exact ⟨o, upd_same⟩
    · rw [upd_ne z]; exact h.there q u hq
  · rcases g e with ⟨rfl, rfl⟩ | ⟨z, e'⟩
    · exact ⟨.ref p, hv0, hs⟩
    · obtain ⟨u, h1, h2⟩ := h.sl j t e'
      refine ⟨u, h1, h2.ex (Ex.refl G) (fun q hq => (h2.has hq).2.1) (fun q w hq hw => ?_)⟩
      have nq : q ≠ p := fun z2 => by subst z2; exact z (h.inj _ _ _ _ _ hi e' ha hq)
      rw [upd_ne nq]; exact hw
  · rcases g e with ⟨rfl, rfl⟩ | ⟨z, e'⟩
    · rw [ha'] at ea; cases ea; rw [hz]; exact h.mine i s p hi ha
    · exact h.mine _ _ _ e' ea
  · rcases g e1 with ⟨z1, rfl⟩ | ⟨z1, e1'⟩ <;> rcases g e2 with ⟨z2, rfl⟩ | ⟨z2, e2'⟩
    · rw [← z1, ← z2]
    · rw [ha'] at a1; cases a1; exact h.inj _ _ _ _ _ (z1 ▸ hi) e2' ha a2
    · rw [ha'] at a2; cases a2; exact h.inj _ _ _ _ _ e1' (z2 ▸ hi) a1 ha
    · exact h.inj _ _ _ _ _ e1' e2' a1 a2
/-- a slot is no longer told of -/
theorem EnvOk.forget {K : PySem.W.Frag} {B : Bs} {G H : Hp} {σ : L2.St} {env : En} (h : EnvOk K B G H σ env) (i : Nat) : EnvOk K B G H σ (env.set i none) := by
  have g : ∀ {j : Nat} {t : Sl}, (env.set i none)[j]? = some (some t) → env[j]? = some (some t) := fun {j t} e => by
    by_cases z : i = j
    · subst z
      by_cases q : i < env.length
      · rw [List.getElem?_set_self q] at e; cases e
      · rw [List.set_eq_of_length_le (by omega)] at e; exact e
    · rw [List.getElem?_set_ne z] at e; exact e
  exact ⟨h.exH, h.exG, h.keep, h.nog, h.there, h.mus, by simp [h.len], fun j t e => h.sl j t (g e), fun j t q e ea => h.mine _ _ _ (g e) ea, fun j k t u q e1 e2 a1 a2 => h.inj _ _ _ _ _ (g e1) (g e2) a1 a2⟩
theorem set_same {α : Type} {l : List α} {i : Nat} {v : α} (h : l[i]? = some v) : l.set i v = l := by
  apply List.ext_getElem?
  intro j
  by_cases z : i = j
  · subst z
    rw [List.getElem?_set_self (List.getElem?_eq_some_iff.mp h).1, h]
  · rw [List.getElem?_set_ne z]
/-- a slot holds data, so it is told -/
theorem EnvOk.tell {K : PySem.W.Frag} {B : Bs} {G H : Hp} {σ : L2.St} {env : En} (h : EnvOk K B G H σ env) {i : Nat} {v : V} {d : PyData} (hv : σ[i]? = some (some v)) (hd : Dd G v d) : EnvOk K B G H σ (env.set i (some (.dat d))) := by
  have := h.setD (i := i) hd
  rw [set_same hv] at this
  exact this
end FD

set_option Elab.async false
set_option linter.all false
set_option maxRecDepth 100000
set_option maxHeartbeats 2000000
namespace FD
open PySem PySem.Spec PyProof.Rows L2

/-! ### what comes of an expression, a test, arguments, a part, a thing to walk, a statement -/
section
variable (K : PySem.W.Frag)
def EvE (te : TE) (env : En) (P : En → PyData → Prop) : Prop :=
  ∀ (B : Bs) (σ : L2.St) (G H : Hp) (Q : VK), EnvOk K B G H σ env →
    (∀ v G' H' env' d, P env' d → Ex G G' → EnvOk K B G' H' σ env' → Dd G' v d → Q v H') → te σ H Q
def EvB (tt : TT) (env : En) (P : En → Bool → Prop) : Prop :=
  ∀ (B : Bs) (σ : L2.St) (G H : Hp) (Q : Bool → Hp → Prop), EnvOk K B G H σ env →
    (∀ b G' H' env', P env' b → Ex G G' → EnvOk K B G' H' σ env' → Q b H') → tt σ H Q
def EvAs (ta : TA) (env : En) (P : En → List PyData → Prop) : Prop :=
  ∀ (B : Bs) (σ : L2.St) (G H : Hp) (Q : List V → Hp → Prop), EnvOk K B G H σ env →
    (∀ vs G' H' env' ds, P env' ds → Ex G G' → EnvOk K B G' H' σ env' → DdAll G' vs ds → Q vs H') → ta σ H Q
def EvO (to : TO) (env : En) (P : En → Option Int → Prop) : Prop :=
  ∀ (B : Bs) (σ : L2.St) (G H : Hp) (Q : Option Int → Hp → Prop), EnvOk K B G H σ env →
    (∀ o G' H' env', P env' o → Ex G G' → EnvOk K B G' H' σ env' → Q o H') → to σ H Q
/-- the iterator walks these data -/
def JOk (J : It) (G : Hp) (xs : List PyData) : Prop := ∀ G1 H1, Ex G G1 → Ex G1 H1 →
  (∀ (i : Nat) d, xs[i]? = some d → J.go i H1 ∧ ∀ x H2, J.yld i H1 x H2 → H2 = H1 ∧ Dd G1 x d) ∧ J.stop xs.length H1
def EvI (wi : TI) (env : En) (P : En → List PyData → Prop) : Prop :=
  ∀ (B : Bs) (σ : L2.St) (G H : Hp) (R : It → Hp → Prop), EnvOk K B G H σ env →
    (∀ J G' H' env' xs, P env' xs → Ex G G' → EnvOk K B G' H' σ env' → JOk J G' xs → R J H') → wi σ H R
structure Outs where
  nx : En → Prop
  rt : En → PyData → Prop := fun _ _ => False
  bk : En → Prop := fun _ => False
  ct : En → Prop := fun _ => False
  rn : (Hp → Hp → Addr → Prop) → En → Prop := fun _ _ => False
def EvS (t : TS) (env : En) (O : Outs) : Prop :=
  ∀ (B : Bs) (σ : L2.St) (G H : Hp) (D : Ends), EnvOk K B G H σ env →
    (∀ σ' G' H' env', O.nx env' → Ex G G' → EnvOk K B G' H' σ' env' → D.nx σ' H') →
    (∀ v G' H' σ' env' d, O.rt env' d → Ex G G' → EnvOk K B G' H' σ' env' → Dd G' v d → D.rt v H') →
    (∀ σ' G' H' env', O.bk env' → Ex G G' → EnvOk K B G' H' σ' env' → D.bk σ' H') →
    (∀ σ' G' H' env', O.ct env' → Ex G G' → EnvOk K B G' H' σ' env' → D.ct σ' H') →
    (∀ F p σ' G' H' env', O.rn F env' → Ex G G' → EnvOk K B G' H' σ' env' → G' p = none → F G' H' p → B.H p = none → D.rt (.ref p) H') → t D σ H
/-- a target takes d -/
def EvG (g : TG) (d : PyData) (env : En) (P : En → Prop) : Prop :=
  ∀ (B : Bs) (σ : L2.St) (G H : Hp) (v : V) (Q : L2.St → Hp → Prop), EnvOk K B G H σ env → Dd G v d →
    (∀ σ' env', P env' → EnvOk K B G H σ' env' → Q σ' H) → g v σ H Q
/-- a two-place operation on data -/
def RD (r : R2) (env : En) (d e : PyData) (P : PyData → Prop) : Prop :=
  ∀ (B : Bs) (σ : L2.St) (G H : Hp) (x y : V) (Q : VK), EnvOk K B G H σ env → Dd G x d → Dd G y e →
    (∀ v G' H' f, P f → Ex G G' → EnvOk K B G' H' σ env → Dd G' v f → Q v H') → r x y H Q
/-- a built-in's call on data -/
def RC (r : List V → Hp → VK → Prop) (env : En) (ds : List PyData) (P : PyData → Prop) : Prop :=
  ∀ (B : Bs) (σ : L2.St) (G H : Hp) (xs : List V) (Q : VK), EnvOk K B G H σ env → DdAll G xs ds →
    (∀ v G' H' f, P f → Ex G G' → EnvOk K B G' H' σ env → Dd G' v f → Q v H') → r xs H Q
def RS (r : V → Option Int → Option Int → Hp → VK → Prop) (env : En) (d : PyData) (lo hi : Option Int) (P : PyData → Prop) : Prop :=
  ∀ (B : Bs) (σ : L2.St) (G H : Hp) (x : V) (Q : VK), EnvOk K B G H σ env → Dd G x d →
    (∀ v G' H' f, P f → Ex G G' → EnvOk K B G' H' σ env → Dd G' v f → Q v H') → r x lo hi H Q
end

section
variable {K : PySem.W.Frag} {env : En} {ta tb tc te : TE} {t u : TS} {P : En → PyData → Prop} {O : Outs}

/-! ### expressions -/
theorem EvE.imp {P' : En → PyData → Prop} (h : EvE K te env P) (w : ∀ e d, P e d → P' e d) : EvE K te env P' :=
  fun B σ G H Q I q => h B σ G H Q I fun v G' H' e d p x y z => q v G' H' e d (w _ _ p) x y z
theorem ev_var {i : Nat} {d : PyData} (h : env[i]? = some (some (.dat d))) (p : P env d) : EvE K (tVar i) env P := fun B σ G H Q I q => by
  obtain ⟨v, h1, h2⟩ := I.sl i _ h
  exact ⟨v, h1, q v G H env d p (Ex.refl G) I h2⟩
theorem ev_int {i : Int} (p : P env (.int i)) : EvE K (tC (.int i)) env P := fun B σ G H Q I q => q _ G H env _ p (Ex.refl G) I (.int i)
theorem ev_str {x : Str} (p : P env (.str x)) : EvE K (tC (.str x)) env P := fun B σ G H Q I q => q _ G H env _ p (Ex.refl G) I (.str x)
theorem ev_bl {b : Bool} (p : P env (.bool b)) : EvE K (tC (.bl b)) env P := fun B σ G H Q I q => q _ G H env _ p (Ex.refl G) I (.bl b)
theorem ev_non (p : P env .none) : EvE K (tC .non) env P := fun B σ G H Q I q => q _ G H env _ p (Ex.refl G) I .non
theorem ev_op {r : R2} (h : EvE K ta env fun e1 d1 => EvE K tb e1 fun e2 d2 => RD K r e2 d1 d2 (P e2)) : EvE K (tOp r ta tb) env P := fun B σ G H Q I q =>
  h B σ G H _ I fun x G1 H1 e1 d1 p1 x1 I1 r1 => p1 B σ G1 H1 _ I1 fun y G2 H2 e2 d2 p2 x2 I2 r2 =>
    p2 B σ G2 H2 x y Q I2 (r1.ex x2) r2 fun v G3 H3 f pf x3 I3 r3 => q v G3 H3 e2 f pf ((x1.trans x2).trans x3) I3 r3
theorem ev_and (h : EvE K ta env fun e1 d => ∃ c, d = .bool c ∧ (c = true → EvE K tb e1 P) ∧ (c = false → P e1 (.bool false))) : EvE K (tAndV ta tb) env P := fun B σ G H Q I q =>
  h B σ G H _ I fun x G1 H1 e1 d1 p1 x1 I1 r1 => by
    obtain ⟨c, rfl, ht, hf⟩ := p1
    cases r1
    refine ⟨c, rfl, ?_⟩
    cases c with
    | true => exact iteT (ht rfl B σ G1 H1 Q I1 fun v G2 H2 e2 d2 p2 x2 I2 r2 => q v G2 H2 e2 d2 p2 (x1.trans x2) I2 r2)
    | false => exact iteF (q _ G1 H1 e1 _ (hf rfl) x1 I1 (.bl false))
theorem ev_or (h : EvE K ta env fun e1 d => ∃ c, d = .bool c ∧ (c = false → EvE K tb e1 P) ∧ (c = true → P e1 (.bool true))) : EvE K (tOrV ta tb) env P := fun B σ G H Q I q =>
  h B σ G H _ I fun x G1 H1 e1 d1 p1 x1 I1 r1 => by
    obtain ⟨c, rfl, hf, ht⟩ := p1
    cases r1
    refine ⟨c, rfl, ?_⟩
    cases c with
    | false => exact iteF (hf rfl B σ G1 H1 Q I1 fun v G2 H2 e2 d2 p2 x2 I2 r2 => q v G2 H2 e2 d2 p2 (x1.trans x2) I2 r2)
    | true => exact iteT (q _ G1 H1 e1 _ (ht rfl) x1 I1 (.bl true))
theorem ev_not (h : EvE K ta env fun e1 d => ∃ c, d = .bool c ∧ P e1 (.bool !c)) : EvE K (tNotV ta) env P := fun B σ G H Q I q =>
  h B σ G H _ I fun x G1 H1 e1 d1 p1 x1 I1 r1 => by
    obtain ⟨c, rfl, hc⟩ := p1
    cases r1
    exact ⟨c, rfl, q _ G1 H1 e1 _ hc x1 I1 (.bl _)⟩
theorem ev_test {P : En → Bool → Prop} (h : EvE K te env fun e1 d => ∃ c, d = .bool c ∧ P e1 c) : EvB K (tTest te) env P := fun B σ G H Q I q =>
  h B σ G H _ I fun x G1 H1 e1 d1 p1 x1 I1 r1 => by
    obtain ⟨c, rfl, hc⟩ := p1
    cases r1
    exact ⟨c, rfl, q c G1 H1 e1 hc x1 I1⟩
theorem ev_tB {P : En → Bool → Prop} (h : EvE K te env fun e1 d => ∃ c, d = .bool c ∧ P e1 c) : EvB K (tB te) env P := fun B σ G H Q I q =>
  h B σ G H _ I fun x G1 H1 e1 d1 p1 x1 I1 r1 => by
    obtain ⟨c, rfl, hc⟩ := p1
    cases r1
    exact ⟨c, rfl, q c G1 H1 e1 hc x1 I1⟩
theorem ev_if {tt : TT} (h : EvB K tt env fun e1 c => (c = true → EvE K ta e1 P) ∧ (c = false → EvE K tb e1 P)) : EvE K (tIf tt ta tb) env P := fun B σ G H Q I q =>
  h B σ G H _ I fun c G1 H1 e1 p1 x1 I1 => by
    cases c with
    | true => exact iteT (p1.1 rfl B σ G1 H1 Q I1 fun v G2 H2 e2 d2 p2 x2 I2 r2 => q v G2 H2 e2 d2 p2 (x1.trans x2) I2 r2)
    | false => exact iteF (p1.2 rfl B σ G1 H1 Q I1 fun v G2 H2 e2 d2 p2 x2 I2 r2 => q v G2 H2 e2 d2 p2 (x1.trans x2) I2 r2)
/-! ### arguments, displays -/
theorem ea_nil {P : En → List PyData → Prop} (p : P env []) : EvAs K tNil env P := fun B σ G H Q I q => q _ G H env _ p (Ex.refl G) I .nil
theorem ea_cons {P : En → List PyData → Prop} {tas : TA} (h : EvE K te env fun e1 d => EvAs K tas e1 fun e2 ds => P e2 (d :: ds)) : EvAs K (tCons te tas) env P := fun B σ G H Q I q =>
  h B σ G H _ I fun x G1 H1 e1 d1 p1 x1 I1 r1 => p1 B σ G1 H1 _ I1 fun vs G2 H2 e2 ds p2 x2 I2 r2 => q _ G2 H2 e2 _ p2 (x1.trans x2) I2 (.cons (r1.ex x2) r2)
theorem upd_dat {G : Hp} {p : Addr} {o : HO} : upd G p o p = some o := upd_same
theorem ev_tup {tas : TA} (h : EvAs K tas env fun e1 ds => ds.length ≤ sizeLine ∧ P e1 (.tuple ds)) : EvE K (tTup tas) env P := fun B σ G H Q I q =>
  h B σ G H _ I fun xs G1 H1 e1 ds p1 x1 I1 r1 => ⟨by rw [r1.length]; exact p1.1, fun p np => by
    have n := I1.exH.fresh np
    exact q _ _ _ e1 _ p1.2 (x1.trans (Ex.new n)) (I1.new np) (.tup upd_same (r1.ex (Ex.new n)))⟩
theorem ev_lst {tas : TA} (h : EvAs K tas env fun e1 ds => ds.length ≤ sizeLine ∧ P e1 (.list ds)) : EvE K (tLst tas) env P := fun B σ G H Q I q =>
  h B σ G H _ I fun xs G1 H1 e1 ds p1 x1 I1 r1 => ⟨by rw [r1.length]; exact p1.1, fun p np => by
    have n := I1.exH.fresh np
    exact q _ _ _ e1 _ p1.2 (x1.trans (Ex.new n)) (I1.new np) (.lst upd_same (r1.ex (Ex.new n)))⟩
theorem ev_cb {r : List V → Hp → VK → Prop} {tas : TA} (h : EvAs K tas env fun e1 ds => RC K r e1 ds (P e1)) : EvE K (tCB r tas) env P := fun B σ G H Q I q =>
  h B σ G H _ I fun xs G1 H1 e1 ds p1 x1 I1 r1 => p1 B σ G1 H1 xs Q I1 r1 fun v G2 H2 f pf x2 I2 r2 => q v G2 H2 e1 f pf (x1.trans x2) I2 r2
/-! ### slices -/
theorem eo_none {P : En → Option Int → Prop} (p : P env none) : EvO K tNoPart env P := fun B σ G H Q I q => q none G H env p (Ex.refl G) I
theorem eo_some {P : En → Option Int → Prop} (h : EvE K te env fun e1 d => ∃ i, d = .int i ∧ P e1 (some i)) : EvO K (tPart te) env P := fun B σ G H Q I q =>
  h B σ G H _ I fun x G1 H1 e1 d1 p1 x1 I1 r1 => by
    obtain ⟨i, rfl, hi⟩ := p1
    cases r1
    exact ⟨i, rfl, q _ G1 H1 e1 hi x1 I1⟩
theorem ev_sl {r : V → Option Int → Option Int → Hp → VK → Prop} {tl th : TO} (h : EvE K te env fun e1 d => EvO K tl e1 fun e2 lo => EvO K th e2 fun e3 hi => RS K r e3 d lo hi (P e3)) : EvE K (tSl r te tl th) env P := fun B σ G H Q I q =>
  h B σ G H _ I fun x G1 H1 e1 d1 p1 x1 I1 r1 => p1 B σ G1 H1 _ I1 fun lo G2 H2 e2 p2 x2 I2 => p2 B σ G2 H2 _ I2 fun hi G3 H3 e3 p3 x3 I3 =>
    p3 B σ G3 H3 x Q I3 (r1.ex (x2.trans x3)) fun v G4 H4 f pf x4 I4 r4 => q v G4 H4 e3 f pf (((x1.trans x2).trans x3).trans x4) I4 r4
/-! ### statements -/
theorem es_next (h : O.nx env) : EvS K tNext env O := fun B σ G H D I a b c d f => a σ G H env h (Ex.refl G) I
theorem es_seq (h : EvS K t env { O with nx := fun e1 => EvS K u e1 O }) : EvS K (tSeq t u) env O := fun B σ G H D I a b c d f =>
  h B σ G H { D with nx := u D } I (fun σ1 G1 H1 e1 p1 x1 I1 => p1 B σ1 G1 H1 D I1 (fun σ2 G2 H2 e2 p2 x2 I2 => a σ2 G2 H2 e2 p2 (x1.trans x2) I2) (fun v G2 H2 σ2 e2 d2 p2 x2 I2 r2 => b v G2 H2 σ2 e2 d2 p2 (x1.trans x2) I2 r2)
    (fun σ2 G2 H2 e2 p2 x2 I2 => c σ2 G2 H2 e2 p2 (x1.trans x2) I2) (fun σ2 G2 H2 e2 p2 x2 I2 => d σ2 G2 H2 e2 p2 (x1.trans x2) I2) (fun F q σ2 G2 H2 e2 p2 x2 => f F q σ2 G2 H2 e2 p2 (x1.trans x2))) b c d f
theorem es_ret (h : EvE K te env O.rt) : EvS K (tRet te) env O := fun B σ G H D I a b c d f => h B σ G H _ I fun v G1 H1 e1 d1 p1 x1 I1 r1 => b v G1 H1 σ e1 d1 p1 x1 I1 r1
theorem es_if {tt : TT} (h : EvB K tt env fun e1 c => (c = true → EvS K t e1 O) ∧ (c = false → EvS K u e1 O)) : EvS K (tIfS tt t u) env O := fun B σ G H D I a b c d f =>
  h B σ G H _ I fun k G1 H1 e1 p1 x1 I1 => by
    have go : ∀ {t : TS}, EvS K t e1 O → t D σ H1 := fun {t} ht => ht B σ G1 H1 D I1 (fun σ2 G2 H2 e2 p2 x2 I2 => a σ2 G2 H2 e2 p2 (x1.trans x2) I2) (fun v G2 H2 σ2 e2 d2 p2 x2 I2 r2 => b v G2 H2 σ2 e2 d2 p2 (x1.trans x2) I2 r2)
      (fun σ2 G2 H2 e2 p2 x2 I2 => c σ2 G2 H2 e2 p2 (x1.trans x2) I2) (fun σ2 G2 H2 e2 p2 x2 I2 => d σ2 G2 H2 e2 p2 (x1.trans x2) I2) (fun F q σ2 G2 H2 e2 p2 x2 => f F q σ2 G2 H2 e2 p2 (x1.trans x2))
    cases k with
    | true => exact iteT (go (p1.1 rfl))
    | false => exact iteF (go (p1.2 rfl))
theorem eg_name {i : Nat} {d : PyData} {P : En → Prop} (h : P (env.set i (some (.dat d)))) : EvG K (gName i) d env P := fun B σ G H v Q I r q => q _ _ h (I.setD r)
theorem es_asg {g : TG} (h : EvE K te env fun e1 d => EvG K g d e1 O.nx) : EvS K (tAsg te g) env O := fun B σ G H D I a b c d f =>
  h B σ G H _ I fun v G1 H1 e1 d1 p1 x1 I1 r1 => p1 B σ G1 H1 v D.nx I1 r1 fun σ2 e2 p2 I2 => a σ2 G1 H1 e2 p2 x1 I2
theorem es_drop (h : EvE K te env fun e1 _ => O.nx e1) : EvS K (tDrop te) env O := fun B σ G H D I a b c d f =>
  h B σ G H _ I fun v G1 H1 e1 d1 p1 x1 I1 r1 => a σ G1 H1 e1 p1 x1 I1
def GsOk (K : PySem.W.Frag) (u : TGs) (ds : List PyData) (env : En) (P : En → Prop) : Prop :=
  ∀ (B : Bs) (σ : L2.St) (G H : Hp) (vs : List V) (Q : L2.St → Hp → Prop), EnvOk K B G H σ env → DdAll G vs ds → (∀ σ' env', P env' → EnvOk K B G H σ' env' → Q σ' H) → u vs σ H Q
theorem egs_nil {P : En → Prop} (h : P env) : GsOk K gNil [] env P := fun B σ G H vs Q I r q => by
  cases r
  exact ⟨rfl, q σ env h I⟩
theorem egs_cons {g : TG} {us : TGs} {d : PyData} {ds : List PyData} {P : En → Prop} (h : EvG K g d env fun e1 => GsOk K us ds e1 P) : GsOk K (gCons g us) (d :: ds) env P := fun B σ G H vs Q I r q => by
  cases r with
  | cons r1 r2 => exact ⟨_, _, rfl, h B σ G H _ _ I r1 fun σ1 e1 p1 I1 => p1 B σ1 G H _ Q I1 r2 q⟩
theorem eg_tup {n : Nat} {us : TGs} {ds : List PyData} {P : En → Prop} (hl : ds.length = n) (h : GsOk K us ds env P) : EvG K (gTup K n us) (.tuple ds) env P := fun B σ G H v Q I r q => by
  cases r with
  | tup h1 h2 => exact ⟨_, _, rfl, SqT.of (I.exH _ _ h1), by rw [h2.length]; exact hl, h B σ G H _ Q I h2 q⟩
theorem EvS.imp {O' : Outs} (h : EvS K t env O) (a : ∀ e, O.nx e → O'.nx e) (b : ∀ e d, O.rt e d → O'.rt e d) (c : ∀ e, O.bk e → O'.bk e) (f : ∀ e, O.ct e → O'.ct e) (g : ∀ F e, O.rn F e → O'.rn F e) : EvS K t env O' := fun B σ G H D I a' b' c' d' f' =>
  h B σ G H D I (fun σ1 G1 H1 e1 p => a' σ1 G1 H1 e1 (a _ p)) (fun v G1 H1 σ1 e1 d1 p => b' v G1 H1 σ1 e1 d1 (b _ _ p)) (fun σ1 G1 H1 e1 p => c' σ1 G1 H1 e1 (c _ p)) (fun σ1 G1 H1 e1 p => d' σ1 G1 H1 e1 (f _ p)) (fun F q σ1 G1 H1 e1 p => f' F q σ1 G1 H1 e1 (g _ _ p))
/-! ### loops -/
theorem es_for {wi : TI} {g : TG} (h : EvI K wi env fun e1 xs => ∃ W : Nat → En → Prop, W 0 e1 ∧ (∀ (i : Nat) (d : PyData) (e2 : En), xs[i]? = some d → W i e2 →
    EvG K g d e2 fun e3 => EvS K t e3 { nx := W (i + 1), rt := O.rt, bk := O.nx, ct := W (i + 1), rn := O.rn }) ∧ ∀ e2, W xs.length e2 → O.nx e2) : EvS K (tFor wi g t) env O := fun B σ G H D I a b c d f =>
  h B σ G H _ I fun J G1 H1 e1 xs p1 x1 I1 j => by
    obtain ⟨W, w0, ws, wd⟩ := p1
    refine ⟨fun i m σ2 H2 => ∃ G2 e2, m = xs.length - i ∧ i ≤ xs.length ∧ W i e2 ∧ Ex G1 G2 ∧ EnvOk K B G2 H2 σ2 e2, ⟨_, G1, e1, rfl, Nat.zero_le _, w0, Ex.refl _, I1⟩, ?_⟩
    rintro i m σ2 H2 ⟨G2, e2, rfl, hi, w2, x2, I2⟩
    obtain ⟨jg, js⟩ := j G2 H2 x2 I2.exH
    by_cases hlt : i < xs.length
    · obtain ⟨go, yl⟩ := jg i xs[i] (List.getElem?_eq_getElem hlt)
      refine .inr ⟨go, fun σ3 H3 => ∃ G3 e3, W (i + 1) e3 ∧ Ex G1 G3 ∧ EnvOk K B G3 H3 σ3 e3, fun σ3 H3 ⟨G3, e3, w3, x3, I3⟩ => ⟨xs.length - (i + 1), by omega, G3, e3, rfl, hlt, w3, x3, I3⟩, fun x H3 y => ?_⟩
      obtain ⟨e, r⟩ := yl x H3 y
      subst e
      refine ws i _ e2 (List.getElem?_eq_getElem hlt) w2 B σ2 G2 H3 x _ I2 r fun σ3 e3 p3 I3 => ?_
      exact p3 B σ3 G2 H3 _ I3 (fun σ4 G4 H4 e4 p4 x4 I4 => ⟨G4, e4, p4, x2.trans x4, I4⟩) (fun v G4 H4 σ4 e4 d4 p4 x4 I4 r4 => b v G4 H4 σ4 e4 d4 p4 ((x1.trans x2).trans x4) I4 r4)
        (fun σ4 G4 H4 e4 p4 x4 I4 => a σ4 G4 H4 e4 p4 ((x1.trans x2).trans x4) I4) (fun σ4 G4 H4 e4 p4 x4 I4 => ⟨G4, e4, p4, x2.trans x4, I4⟩) (fun F q σ4 G4 H4 e4 p4 x4 => f F q σ4 G4 H4 e4 p4 ((x1.trans x2).trans x4))
    · have e : i = xs.length := by omega
      subst e
      exact .inl ⟨js, a σ2 G2 H2 e2 (wd e2 w2) (x1.trans x2) I2⟩
theorem sqL_get {K : PySem.W.Frag} {H : Hp} {a : Addr} {xs ys : List V} (h : H a = some (.lst xs)) (h' : SqL K H a ys) (n : K.lookup a = none) : ys = xs := by
  rcases h' with (h' | ⟨o, h'⟩) | ⟨o, its, k, e, _⟩
  · rw [h] at h'; cases h'; rfl
  · rw [h] at h'; cases h'
  · rw [n] at e; cases e
end
end FD

set_option Elab.async false
set_option linter.all false
set_option maxRecDepth 100000
set_option maxHeartbeats 2000000
namespace FD
open PySem PySem.Spec PyProof.Rows L2

section
variable {K : PySem.W.Frag} {env : En} {ta tb tc te : TE} {t u : TS} {P : En → PyData → Prop} {O : Outs}
/-! ### what is walked -/
theorem jok_list {G : Hp} {a : Addr} {xs : List V} {ds : List PyData} (h : G a = some (.lst xs)) (r : DdAll G xs ds) : JOk (Itl K a) G ds := fun G1 H1 x1 x2 => by
  have hq : SqL K H1 a xs := SqL.of (x2 _ _ (x1 _ _ h))
  refine ⟨fun i d e => ?_, xs, hq, by rw [r.length]; exact Nat.le_refl _⟩
  obtain ⟨v, hv, rv⟩ := r.get e
  refine ⟨⟨xs, v, hq, hv⟩, fun y H2 hy => ⟨hy.1, ?_⟩⟩
  have := hy.2 xs hq
  rw [hv] at this
  cases this
  exact rv.ex x1
theorem jok_tup {G : Hp} {a : Addr} {xs : List V} {ds : List PyData} (h : G a = some (.tup xs)) (r : DdAll G xs ds) : JOk (Itt K a) G ds := fun G1 H1 x1 x2 => by
  have hq : SqT K H1 a xs := SqT.of (x2 _ _ (x1 _ _ h))
  refine ⟨fun i d e => ?_, xs, hq, by rw [r.length]; exact Nat.le_refl _⟩
  obtain ⟨v, hv, rv⟩ := r.get e
  refine ⟨⟨xs, v, hq, hv⟩, fun y H2 hy => ⟨hy.1, ?_⟩⟩
  have := hy.2 xs hq
  rw [hv] at this
  cases this
  exact rv.ex x1
theorem ei_list {P : En → List PyData → Prop} (h : EvE K te env fun e1 d => ∃ ds, d = .list ds ∧ P e1 ds) : EvI K (iList K te) env P := fun B σ G H R I q =>
  h B σ G H _ I fun x G1 H1 e1 d1 p1 x1 I1 r1 => by
    obtain ⟨ds, rfl, hp⟩ := p1
    cases r1 with
    | lst h1 h2 => exact ⟨_, rfl, ⟨_, SqL.of (I1.exH _ _ h1)⟩, q _ G1 H1 e1 ds hp x1 I1 (jok_list h1 h2)⟩
theorem ei_tup {P : En → List PyData → Prop} (h : EvE K te env fun e1 d => ∃ ds, d = .tuple ds ∧ P e1 ds) : EvI K (iTup K te) env P := fun B σ G H R I q =>
  h B σ G H _ I fun x G1 H1 e1 d1 p1 x1 I1 r1 => by
    obtain ⟨ds, rfl, hp⟩ := p1
    cases r1 with
    | tup h1 h2 => exact ⟨_, rfl, ⟨_, SqT.of (I1.exH _ _ h1)⟩, q _ G1 H1 e1 ds hp x1 I1 (jok_tup h1 h2)⟩
/-- a text's signs -/
def signs (x : Str) : List PyData := x.cps.toList.map fun c => .str ⟨#[c]⟩
theorem ei_str {P : En → List PyData → Prop} (h : EvE K te env fun e1 d => ∃ x, d = .str x ∧ P e1 (signs x)) : EvI K (iStr te) env P := fun B σ G H R I q =>
  h B σ G H _ I fun y G1 H1 e1 d1 p1 x1 I1 r1 => by
    obtain ⟨x, rfl, hp⟩ := p1
    cases r1
    refine ⟨x, rfl, q _ G1 H1 e1 _ hp x1 I1 fun G2 H2 x2 x3 => ⟨fun i d e => ?_, by show x.cps.size ≤ (signs x).length; simp [signs]⟩⟩
    have hi : i < x.cps.size := by
      have := (List.getElem?_eq_some_iff.mp e).1
      simpa [signs] using this
    refine ⟨hi, fun z H3 hz => ⟨hz.1, ?_⟩⟩
    obtain ⟨c, hc, rfl⟩ := hz.2
    simp only [signs, List.getElem?_map, Array.getElem?_toList, hc, Option.map_some, Option.some.injEq] at e
    subst e
    exact .str _
/-- lo, lo + 1, .. -/
def nums (lo : Int) (n : Nat) : List PyData := (List.range n).map fun i : Nat => .int (lo + (i : Int))
theorem nums_length {lo : Int} {n : Nat} : (nums lo n).length = n := by simp [nums]
theorem nums_get {lo : Int} {n i : Nat} {d : PyData} (h : (nums lo n)[i]? = some d) : i < n ∧ d = .int (lo + (i : Int)) := by
  have hi : i < n := by
    have := (List.getElem?_eq_some_iff.mp h).1
    simpa [nums] using this
  refine ⟨hi, ?_⟩
  simp only [nums, List.getElem?_map, List.getElem?_range hi, Option.map_some, Option.some.injEq] at h
  exact h.symm
theorem jok_range {G : Hp} {lo : Int} {n : Nat} : JOk (Itr lo n) G (nums lo n) := fun G1 H1 x1 x2 => by
  refine ⟨fun i d e => ?_, by show n ≤ _; rw [nums_length]; exact Nat.le_refl _⟩
  obtain ⟨hi, rfl⟩ := nums_get e
  refine ⟨hi, fun y H2 hy => ⟨hy.1, ?_⟩⟩
  rw [hy.2]
  exact .int _
theorem ei_rng1 {P : En → List PyData → Prop} {tas : TA} (h : EvAs K tas env fun e1 ds => ∃ j : Int, ds = [.int j] ∧ (-(2 ^ 62) ≤ j ∧ j < 2 ^ 62) ∧ P e1 (nums 0 j.toNat)) : EvI K (iRng1 tas) env P := fun B σ G H R I q =>
  h B σ G H _ I fun vs G1 H1 e1 ds p1 x1 I1 r1 => by
    obtain ⟨j, rfl, ⟨b1, b2⟩, hp⟩ := p1
    cases r1 with
    | cons r1 r2 =>
      cases r1; cases r2
      exact ⟨j, rfl, b1, b2, q _ G1 H1 e1 _ hp x1 I1 jok_range⟩
theorem ei_rng2 {P : En → List PyData → Prop} {tas : TA} (h : EvAs K tas env fun e1 ds => ∃ i j : Int, ds = [.int i, .int j] ∧ (-(2 ^ 62) ≤ i ∧ i < 2 ^ 62 ∧ -(2 ^ 62) ≤ j ∧ j < 2 ^ 62) ∧ P e1 (nums i (j - i).toNat)) : EvI K (iRng2 tas) env P := fun B σ G H R I q =>
  h B σ G H _ I fun vs G1 H1 e1 ds p1 x1 I1 r1 => by
    obtain ⟨i, j, rfl, b, hp⟩ := p1
    cases r1 with
    | cons r1 r2 =>
      cases r1
      cases r2 with
      | cons r2 r3 =>
        cases r2; cases r3
        exact ⟨i, j, rfl, b, q _ G1 H1 e1 _ hp x1 I1 jok_range⟩
/-! ### a comprehension, its name in slot i -/
/-- an object that is being made, kept as part of what was known at the entry -/
theorem EnvOk.hide {B : Bs} {G H : Hp} {σ : L2.St} {env : En} (h : EnvOk K B G H σ env) {D : Addr} {o : HO} (hD : H D = some o) (gD : G D = none) (nD : ∀ (j : Nat) (s : Sl), env[j]? = some (some s) → s.ad ≠ some D) (mD : ¬ B.mu D) :
    EnvOk K ⟨upd B.H D o, B.G, B.mu⟩ G H σ env := by
  refine ⟨h.exH, h.exG, fun q u hq hm => ?_, fun q u hq hg => ?_, fun q u hq => ?_, fun q hq => ?_, h.len, h.sl, fun i s p e a => ?_, h.inj⟩
  · by_cases z : q = D
    · subst z
      have hq' : (upd B.H q o) q = some u := hq
      rw [upd_same] at hq'; cases hq'; exact hD
    · have hq' : (upd B.H D o) q = some u := hq
      rw [upd_ne z] at hq'; exact h.keep q u hq' hm
  · by_cases z : q = D
    · subst z; exact gD
    · have hq' : (upd B.H D o) q = some u := hq
      rw [upd_ne z] at hq'; exact h.nog q u hq' hg
  · by_cases z : q = D
    · subst z; exact ⟨o, hD⟩
    · have hq' : (upd B.H D o) q = some u := hq
      rw [upd_ne z] at hq'; exact h.there q u hq'
  · obtain ⟨u, hu⟩ := h.mus q hq
    refine ⟨u, ?_⟩
    show (upd B.H D o) q = some u
    rw [upd_ne (fun z : q = D => mD (by rw [← z]; exact hq))]; exact hu
  · rcases h.mine i s p e a with m | m
    · refine .inl ?_
      show (upd B.H D o) p = none
      rw [upd_ne (fun z : p = D => nD i s e (by rw [← z]; exact a))]; exact m
    · exact .inr m
theorem EnvOk.unhide {B : Bs} {G H : Hp} {σ : L2.St} {env : En} {D : Addr} {o : HO} (h : EnvOk K ⟨upd B.H D o, B.G, B.mu⟩ G H σ env) (bD : B.H D = none) (mD : ¬ B.mu D) (gB : B.G D = none) :
    EnvOk K B G H σ env ∧ H D = some o ∧ G D = none ∧ ∀ (j : Nat) (s : Sl), env[j]? = some (some s) → s.ad ≠ some D := by
  have nq : ∀ {q : Addr} {u : HO}, B.H q = some u → q ≠ D := fun hq z => by rw [z, bD] at hq; cases hq
  refine ⟨⟨h.exH, h.exG, fun q u hq hm => h.keep q u (by show (upd B.H D o) q = _; rw [upd_ne (nq hq)]; exact hq) hm, fun q u hq hg => h.nog q u (by show (upd B.H D o) q = _; rw [upd_ne (nq hq)]; exact hq) hg,
    fun q u hq => h.there q u (by show (upd B.H D o) q = _; rw [upd_ne (nq hq)]; exact hq), fun q hq => ?_, h.len, h.sl, fun i s p e a => ?_, h.inj⟩, h.keep D o upd_same mD, h.nog D o upd_same gB, fun j s e a => ?_⟩
  · obtain ⟨u, hu⟩ := h.mus q hq
    have hu' : (upd B.H D o) q = some u := hu
    rw [upd_ne (fun z : q = D => mD (by rw [← z]; exact hq))] at hu'
    exact ⟨u, hu'⟩
  · rcases h.mine i s p e a with m | m
    · have m' : (upd B.H D o) p = none := m
      by_cases z : p = D
      · subst z; exact .inl bD
      · rw [upd_ne z] at m'; exact .inl m'
    · exact .inr m
  · rcases h.mine j s D e a with m | m
    · have m' : (upd B.H D o) D = none := m
      rw [upd_same] at m'; cases m'
    · exact mD m.1


/-- what was being made is done: from now on it stays -/
theorem EnvOk.freeze {B : Bs} {G H : Hp} {σ : L2.St} {env : En} (h : EnvOk K B G H σ env) {D : Addr} {o : HO} (hD : H D = some o) (gD : G D = none) (nD : ∀ (j : Nat) (s : Sl), env[j]? = some (some s) → s.ad ≠ some D) (bD : B.H D = none) :
    EnvOk K B (upd G D o) H σ env := by
  refine ⟨fun a u e => ?_, h.exG.trans (Ex.new gD), h.keep, fun q u hq hg => ?_, h.there, h.mus, h.len, fun j s e => ?_, h.mine, h.inj⟩
  · by_cases z : a = D
    · subst z; rw [upd_same] at e; cases e; exact hD
    · rw [upd_ne z] at e; exact h.exH a u e
  · rw [upd_ne (fun z : q = D => by rw [z, bD] at hq; cases hq)]; exact h.nog q u hq hg
  · obtain ⟨v, h1, h2⟩ := h.sl j s e
    refine ⟨v, h1, h2.ex (Ex.new gD) (fun p hp => ?_) fun p u _ hu => hu⟩
    rw [upd_ne (fun z : p = D => nD j s e (by rw [← z]; exact hp))]
    exact (h2.has hp).2.1
theorem EnvOk.unwipe {B : Bs} {G H : Hp} {σ : L2.St} {env : En} {i : Nat} (h : EnvOk K B G H (σ.set i none) env) : EnvOk K B G H σ (env.set i none) := by
  have I := h.setN i
  refine ⟨h.exH, h.exG, h.keep, h.nog, h.there, h.mus, by have := h.len; simp at this; simp [this], fun j s e => ?_, I.mine, I.inj⟩
  obtain ⟨v, h1, h2⟩ := I.sl j s e
  refine ⟨v, ?_, h2⟩
  by_cases z : i = j
  · subst z
    by_cases q : i < σ.length
    · rw [List.getElem?_set_self (by simpa using q)] at h1; cases h1
    · rw [List.set_eq_of_length_le (by simpa using q), List.set_eq_of_length_le (by omega)] at h1; exact h1
  · rw [List.getElem?_set_ne z, List.getElem?_set_ne z] at h1; exact h1
theorem wipe1 (σ : L2.St) (i : Nat) : wipe σ [i] = σ.set i none := rfl
/-- [e for x in xs if t]: by a word over the turn, the environment and what is made so far -/
theorem ev_lc {wi : TI} {i : Nat} {tt : TT} (h : EvI K wi env fun e1 xs => ∃ W : Nat → En → List PyData → Prop, W 0 (e1.set i none) [] ∧
    (∀ (j : Nat) (d : PyData) (e2 : En) (acc : List PyData), xs[j]? = some d → W j e2 acc → acc.length < sizeLine ∧ EvB K tt (e2.set i (some (.dat d))) fun e3 b =>
      (b = true → EvE K te e3 fun e4 y => W (j + 1) (e4.set i none) (acc ++ [y])) ∧ (b = false → W (j + 1) (e3.set i none) acc)) ∧
    ∀ (e2 : En) (acc : List PyData), W xs.length e2 acc → P (e2.set i none) (.list acc)) : EvE K (tLc wi (gName i) tt te [i]) env P := fun B σ G H Q I q =>
  h B σ G H _ I fun J G1 H1 e1 xs p1 x1 I1 j => by
    obtain ⟨W, w0, ws, wd⟩ := p1
    intro D nD
    have gD : G1 D = none := I1.exH.fresh nD
    have bD : B.H D = none := by
      cases z : B.H D with
      | none => rfl
      | some o => obtain ⟨u, hu⟩ := I1.there D o z; rw [nD] at hu; cases hu
    have mD : ¬ B.mu D := fun m => by obtain ⟨o, ho⟩ := I1.mus D m; rw [bD] at ho; cases ho
    have gB : B.G D = none := I1.exG.fresh gD
    have sD : ∀ (j : Nat) (s : Sl), (e1.set i none)[j]? = some (some s) → s.ad ≠ some D := fun j s e a => by
      obtain ⟨v, _, hs⟩ := (I1.setN i).sl j s e
      obtain ⟨_, _, o, ho⟩ := hs.has a
      rw [nD] at ho; cases ho
    -- the state between two turns
    let St := fun (jn : Nat) (H2 : Hp) => ∃ (G2 : Hp) (e2 : En) (acc : List PyData) (av : List V), jn ≤ xs.length ∧ W jn e2 acc ∧ Ex G1 G2 ∧ DdAll G2 av acc ∧ EnvOk K ⟨upd B.H D (.lst av), B.G, B.mu⟩ G2 H2 (σ.set i none) e2
    have start : St 0 (upd H1 D (.lst [])) := by
      refine ⟨G1, e1.set i none, [], [], Nat.zero_le _, w0, Ex.refl _, .nil, ?_⟩
      have I2 := I1.setN i
      refine EnvOk.hide ?_ upd_same gD sD mD
      exact ⟨I2.exH.trans (Ex.new nD), I2.exG, fun q u hq hm => Ex.new nD _ _ (I2.keep q u hq hm), I2.nog, fun q u hq => by obtain ⟨w, hw⟩ := I2.there q u hq; exact ⟨w, Ex.new nD _ _ hw⟩, I2.mus, I2.len,
        fun k s e => by
          obtain ⟨v, h1, h2⟩ := I2.sl k s e
          exact ⟨v, h1, h2.ex (Ex.refl _) (fun p hp => (h2.has hp).2.1) fun p o hp ho => Ex.new nD _ _ ho⟩, I2.mine, I2.inj⟩
    refine ⟨fun jn m H2 => m = xs.length - jn ∧ St jn H2, ⟨_, rfl, start⟩, ?_⟩
    rintro jn m H2 ⟨rfl, G2, e2, acc, av, hj, w2, x2, ra, I2⟩
    obtain ⟨jg, js⟩ := j G2 H2 x2 I2.exH
    by_cases hlt : jn < xs.length
    · obtain ⟨go, yl⟩ := jg jn xs[jn] (List.getElem?_eq_getElem hlt)
      refine .inr ⟨go, St (jn + 1), fun H3 s3 => ⟨xs.length - (jn + 1), by omega, rfl, s3⟩, fun x H3 y => ?_⟩
      obtain ⟨e, r⟩ := yl x H3 y
      subst e
      obtain ⟨hl, hb⟩ := ws jn _ e2 acc (List.getElem?_eq_getElem hlt) w2
      show wipe ((wipe σ [i]).set i (some x)) [i] = wipe σ [i] ∧ _
      refine ⟨by rw [wipe1, wipe1, List.set_set, List.set_set], ?_⟩
      have I3 : EnvOk K ⟨upd B.H D (.lst av), B.G, B.mu⟩ G2 H3 ((wipe σ [i]).set i (some x)) (e2.set i (some (.dat xs[jn]))) := I2.setD r
      have back : ((wipe σ [i]).set i (some x)).set i none = σ.set i none := by rw [wipe1, List.set_set, List.set_set]
      refine hb _ _ G2 H3 _ I3 fun b G4 H4 e4 p4 x4 I4 => ?_
      cases b with
      | false =>
        refine iteF ⟨G4, e4.set i none, acc, av, hlt, p4.2 rfl, x2.trans x4, ra.ex x4, ?_⟩
        have := I4.setN i
        rw [back] at this
        exact this
      | true =>
        refine iteT (p4.1 rfl _ _ G4 H4 _ I4 fun yv G5 H5 e5 yd p5 x5 I5 r5 => ?_)
        obtain ⟨I6, hD5, gD5, sD5⟩ := I5.unhide bD mD gB
        refine ⟨av, hD5, by rw [ra.length]; exact hl, G5, e5.set i none, acc ++ [yd], av ++ [yv], hlt, p5, (x2.trans x4).trans x5, ((ra.ex x4).ex x5).append (.cons r5 .nil), ?_⟩
        have I7 := I6.setN i
        rw [back] at I7
        have sD7 : ∀ (k : Nat) (s : Sl), (e5.set i none)[k]? = some (some s) → s.ad ≠ some D := fun k s e => by
          by_cases z : i = k
          · subst z
            by_cases q : i < e5.length
            · rw [List.getElem?_set_self q] at e; cases e
            · rw [List.set_eq_of_length_le (by omega)] at e; exact sD5 _ _ e
          · rw [List.getElem?_set_ne z] at e; exact sD5 _ _ e
        refine EnvOk.hide (H := upd H5 D (.lst (av ++ [yv]))) ?_ upd_same gD5 sD7 mD
        have up : ∀ {p : Addr} {o : HO}, p ≠ D → H5 p = some o → (upd H5 D (.lst (av ++ [yv]))) p = some o := fun n e => by rw [upd_ne n]; exact e
        have nq : ∀ {p : Addr} {o : HO}, B.H p = some o → p ≠ D := fun e z => by rw [z, bD] at e; cases e
        exact ⟨fun p o e => up (fun z => by rw [z, gD5] at e; cases e) (I7.exH p o e), I7.exG, fun p o e m => up (nq e) (I7.keep p o e m), I7.nog, fun p o e => by obtain ⟨w, hw⟩ := I7.there p o e; exact ⟨w, up (nq e) hw⟩, I7.mus, I7.len,
          fun k s e => by
            obtain ⟨v, h1, h2⟩ := I7.sl k s e
            exact ⟨v, h1, h2.ex (Ex.refl _) (fun p hp => (h2.has hp).2.1) fun p o hp ho => up (fun z => sD7 k s e (by rw [← z]; exact hp)) ho⟩, I7.mine, I7.inj⟩
    · have e : jn = xs.length := by omega
      subst e
      refine .inl ⟨js, ?_⟩
      obtain ⟨I6, hD5, gD5, sD5⟩ := I2.unhide bD mD gB
      have I7 := I6.unwipe.freeze hD5 gD5 (fun k s e => by
        by_cases z : i = k
        · subst z
          by_cases q : i < e2.length
          · rw [List.getElem?_set_self q] at e; cases e
          · rw [List.set_eq_of_length_le (by omega)] at e; exact sD5 _ _ e
        · rw [List.getElem?_set_ne z] at e; exact sD5 _ _ e) bD
      exact q _ _ H2 _ _ (wd e2 acc w2) ((x1.trans x2).trans (Ex.new gD5)) I7 (.lst upd_same (ra.ex (Ex.new gD5)))
end
end FD

set_option Elab.async false
set_option linter.all false
set_option maxRecDepth 100000
set_option maxHeartbeats 2000000
namespace FD
open PySem PySem.Spec PyProof.Rows L2

/-! ### operators of any data: one reading for each sign -/
def rPlus (K : PySem.W.Frag) : R2 := fun x y H Q => rI0 (fun i j => .int (i + j)) x y H Q ∨ (∃ i j : Str, x = .str i ∧ y = .str j ∧ i.length + j.length ≤ sizeLine ∧ Q (.str (i ++ j)) H) ∨ rCat x y H Q ∨ rCatA K x y H Q
def rTimes (K : PySem.W.Frag) : R2 := fun x y H Q => rI CMul (fun i j => .int (i * j)) x y H Q ∨ rI CMulW (fun i j => .int (i * j)) x y H Q ∨ rRepT K x y H Q ∨ rRep x y H Q
def rIsAny : R2 := fun x y H Q => rIsB x y H Q ∨ (y = .non ∧ Q (.bl (decide (x = .non))) H)
def rIsNotAny : R2 := fun x y H Q => rNotB x y H Q ∨ (y = .non ∧ Q (.bl (!decide (x = .non))) H)
def rOver : R2 := fun x y H Q => rI CDivN (fun i j => .int (i.fdiv j)) x y H Q
def rMod : R2 := fun x y H Q => rI (fun _ j => j ≠ 0) (fun i j => .int (i.fmod j)) x y H Q
def rLe : R2 := fun x y H Q => rI0 (fun i j => .bl (decide (i ≤ j))) x y H Q ∨ ∃ i j : Str, x = .str i ∧ y = .str j ∧ Q (.bl (!decide (j.cps.toList < i.cps.toList))) H
def rSlice (K : PySem.W.Frag) : V → Option Int → Option Int → Hp → VK → Prop := fun x lo hi H Q => rSlL K x lo hi H Q ∨ rSlA K x lo hi H Q ∨ rSlS x lo hi H Q
section
variable {X : Cx}
theorem op_plus : OpR X (binaryOp .Add) (rPlus X.K) := op_add.or (op_add_str.or (op_cat.or op_catA))
theorem op_times : OpR X (binaryOp .Mult) (rTimes X.K) := op_mul.or (op_mulW.or (op_repT.or op_rep))
theorem op_isAny : OpR X (compareOp .Is) rIsAny := op_isBl.or op_isN
theorem op_isNotAny : OpR X (compareOp .IsNot) rIsNotAny := op_notBl.or op_notN
theorem op_leAny : OpR X (compareOp .LtE) rLe := op_le.or op_le_str
theorem sl_any : SlR X (rSlice X.K) := sl_list.or (sl_tupA.or sl_str)
theorem Room.u64 {k : Nat} {A : Around} (r : Room k A) : A.units + 64 < cLine := by have := r.un; omega
theorem Room.u1 {k : Nat} {A : Around} (r : Room k A) : A.units + 1 < cLine := by have := r.un; omega
/-- repr of data -/
def rRepr (K : PySem.W.Frag) : List V → Hp → VK → Prop := fun xs H Q => ∃ x, xs = [x] ∧
  ((x = .non ∧ Q (.str "None") H) ∨ (∃ i, x = .int i ∧ i.natAbs.log2 < 1920 ∧ Q (.str (toString i)) H) ∨
    ∃ (a : Addr) (d : PyData), x = .ref a ∧ Dp K H (.ref a) d ∧ d.showable = true ∧ d.hasDict = false ∧ d.depth ≤ 60 ∧ d.shown.length ≤ sizeLine ∧ Q (.str d.shown) H)
theorem call_repr {k : Nat} (hr : Room k X.A) (hg : X.A.guards = some []) : CallR X (.builtin "repr") (rRepr X.K) := by
  intro pins s σ H xs us Q I r h
  obtain ⟨x, rfl, h⟩ := h
  obtain ⟨u, rfl, rx⟩ := vals1 r
  rcases h with ⟨rfl, q⟩ | ⟨i, rfl, hz, q⟩ | ⟨a, d, rfl, hd, sh, nd, dp, sz, q⟩
  · cases rx
    exact PySem.P.repr_of_none ⟨.str _, H, I.tok _, ⟨_, rfl⟩, q⟩
  · obtain ⟨t, rfl⟩ := rx
    exact PySem.P.repr_of_int hz ⟨.str _, H, I.tok _, ⟨_, rfl⟩, q⟩
  · obtain ⟨as, rd⟩ := Dp.reads I d (.ref a) u hd rx
    cases rx
    refine repr_of_reads' rd sh (PyData.noDict_hsm nd) hg (by have := Room.u64 hr; omega) (fun _ _ e => e) (fun h' v tk hk => ?_) sz
    exact ⟨.str _, H, I.kept (t' := tk) hk, ⟨_, rfl⟩, q⟩
end

section
variable {K : PySem.W.Frag} {env : En} {P : PyData → Prop}
/-! ### what they do on data -/
theorem rd_keep {r : R2} {d e f : PyData} (p : P f) (h : ∀ (G H : Hp) (x y : V) (Q : VK), Ex G H → Dd G x d → Dd G y e → (∀ v, Dd G v f → Q v H) → r x y H Q) : RD K r env d e P :=
  fun B σ G H x y Q I rx ry q => h G H x y Q I.exH rx ry fun v rv => q v G H f p (Ex.refl G) I rv
theorem rd_int {g : Int → Int → Int} {i j : Int} (p : P (.int (g i j))) : RD K (rI0 fun i j => .int (g i j)) env (.int i) (.int j) P := rd_keep p fun G H x y Q _ rx ry q => by
  cases rx; cases ry; exact ⟨i, j, rfl, rfl, q _ (.int _)⟩
theorem rd_cmp {g : Int → Int → Bool} {i j : Int} (p : P (.bool (g i j))) : RD K (rI0 fun i j => .bl (g i j)) env (.int i) (.int j) P := rd_keep p fun G H x y Q _ rx ry q => by
  cases rx; cases ry; exact ⟨i, j, rfl, rfl, q _ (.bl _)⟩
theorem rd_intC {C : Int → Int → Prop} {g : Int → Int → Int} {i j : Int} (hc : C i j) (p : P (.int (g i j))) : RD K (rI C fun i j => .int (g i j)) env (.int i) (.int j) P := rd_keep p fun G H x y Q _ rx ry q => by
  cases rx; cases ry; exact ⟨i, j, rfl, rfl, hc, q _ (.int _)⟩
theorem rd_plusI {i j : Int} (p : P (.int (i + j))) : RD K (rPlus K) env (.int i) (.int j) P := fun B σ G H x y Q I rx ry q => .inl (rd_int p B σ G H x y Q I rx ry q)
theorem rd_plusS {i j : Str} (hl : i.length + j.length ≤ sizeLine) (p : P (.str (i ++ j))) : RD K (rPlus K) env (.str i) (.str j) P := fun B σ G H x y Q I rx ry q => by
  cases rx; cases ry; exact .inr (.inl ⟨i, j, rfl, rfl, hl, q _ G H _ p (Ex.refl G) I (.str _)⟩)
theorem rd_plusL {xs ys : List PyData} (hl : xs.length + ys.length ≤ sizeLine) (p : P (.list (xs ++ ys))) : RD K (rPlus K) env (.list xs) (.list ys) P := fun B σ G H x y Q I rx ry q => by
  cases rx with
  | lst h1 r1 =>
    cases ry with
    | lst h2 r2 =>
      refine .inr (.inr (.inl ⟨_, _, _, _, rfl, rfl, I.exH _ _ h1, I.exH _ _ h2, by rw [r1.length, r2.length]; exact hl, fun p' np => ?_⟩))
      have n := I.exH.fresh np
      exact q _ _ _ _ p (Ex.new n) (I.new np) (.lst upd_same ((r1.append r2).ex (Ex.new n)))
theorem rd_plusT {xs ys : List PyData} (hl : xs.length + ys.length ≤ sizeLine) (p : P (.tuple (xs ++ ys))) : RD K (rPlus K) env (.tuple xs) (.tuple ys) P := fun B σ G H x y Q I rx ry q => by
  cases rx with
  | tup h1 r1 =>
    cases ry with
    | tup h2 r2 =>
      refine .inr (.inr (.inr ⟨_, _, _, _, rfl, rfl, SqT.of (I.exH _ _ h1), SqT.of (I.exH _ _ h2), by rw [r1.length, r2.length]; exact hl, fun e => ?_, fun _ e => ?_, fun _ _ p' np => ?_⟩))
      · subst e
        cases r1
        exact q _ G H _ p (Ex.refl G) I (.tup h2 r2)
      · subst e
        cases r2
        rw [List.append_nil] at p
        exact q _ G H _ p (Ex.refl G) I (.tup h1 r1)
      · have n := I.exH.fresh np
        exact q _ _ _ _ p (Ex.new n) (I.new np) (.tup upd_same ((r1.append r2).ex (Ex.new n)))
theorem rd_timesI {i j : Int} (hc : CMul i j) (p : P (.int (i * j))) : RD K (rTimes K) env (.int i) (.int j) P := fun B σ G H x y Q I rx ry q => .inl (rd_intC (C := CMul) (g := fun i j => i * j) hc p B σ G H x y Q I rx ry q)
theorem rd_timesW {i j : Int} (hc : CMulW i j) (p : P (.int (i * j))) : RD K (rTimes K) env (.int i) (.int j) P := fun B σ G H x y Q I rx ry q => .inr (.inl (rd_intC (C := CMulW) (g := fun i j => i * j) hc p B σ G H x y Q I rx ry q))
theorem rd_timesT {xs : List PyData} {k : Int} (hx : xs ≠ []) (h2 : 2 ≤ k) (hk : k ≤ 1000) (hl : xs.length ≤ 1000) (p : P (.tuple (List.replicate k.toNat xs).flatten)) : RD K (rTimes K) env (.tuple xs) (.int k) P := fun B σ G H x y Q I rx ry q => by
  cases rx with
  | tup h1 r1 =>
    cases ry
    refine .inr (.inr (.inl ⟨_, k, _, rfl, rfl, SqT.of (I.exH _ _ h1), fun e => ?_, h2, hk, by rw [r1.length]; exact hl, fun p' np => ?_⟩))
    · subst e; cases r1; exact hx rfl
    · have n := I.exH.fresh np
      exact q _ _ _ _ p (Ex.new n) (I.new np) (.tup upd_same ((r1.rep _).ex (Ex.new n)))
theorem rd_modI {i j : Int} (hc : j ≠ 0) (p : P (.int (i.fmod j))) : RD K rMod env (.int i) (.int j) P := rd_intC (C := fun _ j => j ≠ 0) (g := fun i j => i.fmod j) hc p
theorem rd_overI {i j : Int} (hc : CDivN i j) (p : P (.int (i.fdiv j))) : RD K rOver env (.int i) (.int j) P := rd_intC (C := CDivN) (g := fun i j => i.fdiv j) hc p
theorem rd_leI {i j : Int} (p : P (.bool (decide (i ≤ j)))) : RD K rLe env (.int i) (.int j) P := fun B σ G H x y Q I rx ry q => .inl (rd_cmp (g := fun i j => decide (i ≤ j)) p B σ G H x y Q I rx ry q)
theorem rd_leS {i j : Str} (p : P (.bool (!decide (j.cps.toList < i.cps.toList)))) : RD K rLe env (.str i) (.str j) P := fun B σ G H x y Q I rx ry q => by
  cases rx; cases ry; exact .inr ⟨i, j, rfl, rfl, q _ G H _ p (Ex.refl G) I (.bl _)⟩
theorem rd_ltI {i j : Int} (p : P (.bool (decide (i < j)))) : RD K (rI0 fun i j => .bl (decide (i < j))) env (.int i) (.int j) P := rd_cmp (g := fun i j => decide (i < j)) p
theorem rd_gtI {i j : Int} (p : P (.bool (decide (j < i)))) : RD K (rI0 fun i j => .bl (decide (j < i))) env (.int i) (.int j) P := rd_cmp (g := fun i j => decide (j < i)) p
theorem rd_geI {i j : Int} (p : P (.bool (decide (j ≤ i)))) : RD K (rI0 fun i j => .bl (decide (j ≤ i))) env (.int i) (.int j) P := rd_cmp (g := fun i j => decide (j ≤ i)) p
/-- a thing that == goes over -/
def eqOk (d : PyData) : Bool := noDict d && SeqAt.shaped d
theorem rd_eq {d e : PyData} (hd : eqOk d = true) (he : eqOk e = true) (p : P (.bool (PyData.eqv d e))) : RD K (rEqD K) env d e P := rd_keep p fun G H x y Q x1 rx ry q => by
  simp only [eqOk, Bool.and_eq_true] at hd he
  exact ⟨d, e, Dd.dp d x hd.1 (rx.ex x1), Dd.dp e y he.1 (ry.ex x1), hd.2, he.2, q _ (.bl _)⟩
theorem rd_ne {d e : PyData} (hd : eqOk d = true) (he : eqOk e = true) (p : P (.bool (!PyData.eqv d e))) : RD K (rNeD K) env d e P := rd_keep p fun G H x y Q x1 rx ry q => by
  simp only [eqOk, Bool.and_eq_true] at hd he
  exact ⟨d, e, Dd.dp d x hd.1 (rx.ex x1), Dd.dp e y he.1 (ry.ex x1), hd.2, he.2, q _ (.bl _)⟩
theorem rd_isB {a b : Bool} (p : P (.bool (decide (a = b)))) : RD K rIsAny env (.bool a) (.bool b) P := rd_keep p fun G H x y Q x1 rx ry q => by
  cases rx; cases ry; exact .inl ⟨a, b, rfl, rfl, q _ (.bl _)⟩
theorem rd_isNotB {a b : Bool} (p : P (.bool (!decide (a = b)))) : RD K rIsNotAny env (.bool a) (.bool b) P := rd_keep p fun G H x y Q x1 rx ry q => by
  cases rx; cases ry; exact .inl ⟨a, b, rfl, rfl, q _ (.bl _)⟩
def isNone : PyData → Bool
  | .none => true
  | _ => false
theorem Dd.isNone {H : Hp} {x : V} {d : PyData} (r : Dd H x d) : decide (x = .non) = isNone d := by
  cases r <;> rfl
theorem rd_isN {d : PyData} (p : P (.bool (isNone d))) : RD K rIsAny env d .none P := rd_keep p fun G H x y Q x1 rx ry q => by
  cases ry; refine .inr ⟨rfl, q _ ?_⟩; rw [rx.isNone]; exact .bl _
theorem rd_isNotN {d : PyData} (p : P (.bool (!isNone d))) : RD K rIsNotAny env d .none P := rd_keep p fun G H x y Q x1 rx ry q => by
  cases ry; refine .inr ⟨rfl, q _ ?_⟩; rw [rx.isNone]; exact .bl _
theorem rd_inS {i j : Str} (p : P (.bool (!(Builtin.Str.occurrences j i 0 j.length 1).isEmpty))) : RD K (fun x y H Q => ∃ i j, x = .str i ∧ y = .str j ∧ Q (.bl (!(Builtin.Str.occurrences j i 0 j.length 1).isEmpty)) H) env (.str i) (.str j) P :=
  rd_keep p fun G H x y Q x1 rx ry q => by
    cases rx; cases ry; exact ⟨i, j, rfl, rfl, q _ (.bl _)⟩
/-! items -/
theorem DdAll.atI {G : Hp} {xs : List V} {ds : List PyData} {i : Int} {d : PyData} (r : DdAll G xs ds) (h : L2.atI ds i = some d) : ∃ v, L2.atI xs i = some v ∧ Dd G v d := by
  unfold L2.atI at h ⊢
  rw [r.length]
  cases e : ixN ds.length i with
  | none => rw [e] at h; cases h
  | some j =>
    rw [e] at h
    exact r.get h
theorem rd_ixL {ds : List PyData} {i : Int} {d : PyData} (h : L2.atI ds i = some d) (p : P d) : RD K (rIx K) env (.list ds) (.int i) P := rd_keep p fun G H x y Q x1 rx ry q => by
  cases rx with
  | lst h1 r1 =>
    cases ry
    obtain ⟨v, hv, rv⟩ := r1.atI h
    exact .inl ⟨_, _, i, v, rfl, rfl, SqL.of (x1 _ _ h1), hv, q v rv⟩
theorem rd_ixT {ds : List PyData} {i : Int} {d : PyData} (h : L2.atI ds i = some d) (p : P d) : RD K (rIx K) env (.tuple ds) (.int i) P := rd_keep p fun G H x y Q x1 rx ry q => by
  cases rx with
  | tup h1 r1 =>
    cases ry
    obtain ⟨v, hv, rv⟩ := r1.atI h
    exact .inr (.inl ⟨_, _, i, v, rfl, rfl, SqT.of (x1 _ _ h1), hv, q v rv⟩)
theorem rd_ixS {z : Str} {i : Int} {c : Nat} (hl : z.length ≤ sizeLine) (h : L2.atI z.cps.toList i = some c) (p : P (.str ⟨#[c]⟩)) : RD K (rIx K) env (.str z) (.int i) P := rd_keep p fun G H x y Q x1 rx ry q => by
  cases rx; cases ry; exact .inr (.inr ⟨z, i, c, rfl, rfl, hl, h, q _ (.str _)⟩)
/-! slices -/
def cutD (xs : List PyData) (lo hi : Option Int) : List PyData := (xs.drop (HT.sIx xs.length 0 lo)).take (HT.sIx xs.length xs.length hi - HT.sIx xs.length 0 lo)
theorem rs_list {ds : List PyData} {lo hi : Option Int} (p : P (.list (cutD ds lo hi))) : RS K (rSlice K) env (.list ds) lo hi P := fun B σ G H x Q I rx q => by
  cases rx with
  | lst h1 r1 =>
    refine .inl ⟨_, _, rfl, SqL.of (I.exH _ _ h1), fun p' np => ?_⟩
    have n := I.exH.fresh np
    refine q _ _ _ _ p (Ex.new n) (I.new np) (.lst upd_same (DdAll.ex ?_ (Ex.new n)))
    unfold cutV cutD
    rw [r1.length]
    exact (r1.drop _).take _
theorem rs_tup {ds : List PyData} {lo hi : Option Int} (p : P (.tuple (cutD ds lo hi))) : RS K (rSlice K) env (.tuple ds) lo hi P := fun B σ G H x Q I rx q => by
  cases rx with
  | tup h1 r1 =>
    rename_i a zs
    have rc : DdAll G (cutV zs lo hi) (cutD ds lo hi) := by
      unfold cutV cutD
      rw [r1.length]
      exact (r1.drop _).take _
    refine .inr (.inl ⟨_, _, rfl, SqT.of (I.exH _ _ h1), fun e => ?_, fun _ p' np => ?_⟩)
    · have e' : cutV zs lo hi = zs := by
        unfold cutV
        rw [e.1, e.2]
        show List.take _ (List.drop 0 _) = _
        rw [List.drop_zero, Nat.sub_zero, List.take_length]
      rw [e'] at rc
      exact q _ G H _ p (Ex.refl G) I (.tup h1 rc)
    · have n := I.exH.fresh np
      exact q _ _ _ _ p (Ex.new n) (I.new np) (.tup upd_same (rc.ex (Ex.new n)))
end
end FD

set_option Elab.async false
set_option linter.all false
set_option maxRecDepth 100000
set_option maxHeartbeats 2000000
namespace FD
open PySem PySem.Spec PyProof.Rows L2

section
variable {K : PySem.W.Frag} {env : En} {P : PyData → Prop}
theorem rc_keep {r : List V → Hp → VK → Prop} {ds : List PyData} {f : PyData} (p : P f) (h : ∀ (G H : Hp) (xs : List V) (Q : VK), Ex G H → DdAll G xs ds → (∀ v, Dd G v f → Q v H) → r xs H Q) : RC K r env ds P :=
  fun B σ G H xs Q I rx q => h G H xs Q I.exH rx fun v rv => q v G H f p (Ex.refl G) I rv
theorem DdAll.one {G : Hp} {xs : List V} {d : PyData} (h : DdAll G xs [d]) : ∃ x, xs = [x] ∧ Dd G x d := by
  cases h with
  | cons h1 h2 => cases h2; exact ⟨_, rfl, h1⟩
theorem DdAll.two {G : Hp} {xs : List V} {d e : PyData} (h : DdAll G xs [d, e]) : ∃ x y, xs = [x, y] ∧ Dd G x d ∧ Dd G y e := by
  cases h with
  | cons h1 h2 =>
    obtain ⟨y, rfl, hy⟩ := h2.one
    exact ⟨_, y, rfl, h1, hy⟩
/-! len, all, int, tuple, max, min -/
def rLen (K : PySem.W.Frag) : List V → Hp → VK → Prop := fun xs H Q => ∃ x n, xs = [x] ∧ LenV K x H n ∧ Q (.int n) H
theorem rc_lenL {ds : List PyData} (p : P (.int ds.length)) : RC K (rLen K) env [.list ds] P := rc_keep p fun G H xs Q x1 rx q => by
  obtain ⟨x, rfl, h⟩ := rx.one
  cases h with
  | lst h1 h2 => exact ⟨_, _, rfl, .inl ⟨_, SqL.of (x1 _ _ h1), rfl⟩, by rw [h2.length]; exact q _ (.int _)⟩
theorem rc_lenT {ds : List PyData} (p : P (.int ds.length)) : RC K (rLen K) env [.tuple ds] P := rc_keep p fun G H xs Q x1 rx q => by
  obtain ⟨x, rfl, h⟩ := rx.one
  cases h with
  | tup h1 h2 => exact ⟨_, _, rfl, .inr ⟨_, SqT.of (x1 _ _ h1), rfl⟩, by rw [h2.length]; exact q _ (.int _)⟩
theorem rc_lenS {z : Str} (hl : z.length ≤ sizeLine) (p : P (.int z.length)) : RC K (rLen K) env [.str z] P := rc_keep p fun G H xs Q x1 rx q => by
  obtain ⟨x, rfl, h⟩ := rx.one
  cases h
  exact ⟨_, _, rfl, ⟨hl, rfl⟩, q _ (.int _)⟩
theorem bls_of {G : Hp} : ∀ {xs : List V} {bs : List Bool}, DdAll G xs (bs.map .bool) → xs = bs.map V.bl
  | _, [], h => by cases h; rfl
  | _, b :: bs, h => by
    cases h with
    | cons h1 h2 =>
      cases h1
      rw [List.map_cons, ← bls_of h2]
theorem rc_all {bs : List Bool} (p : P (.bool (bs.all id))) : RC K (rAll K) env [.list (bs.map .bool)] P := rc_keep p fun G H xs Q x1 rx q => by
  obtain ⟨x, rfl, h⟩ := rx.one
  cases h with
  | lst h1 h2 =>
    obtain rfl := bls_of h2
    exact ⟨_, bs, rfl, SqL.of (x1 _ _ h1), q _ (.bl _)⟩
def rInt : List V → Hp → VK → Prop := fun xs H Q => (∃ i, xs = [.int i] ∧ Q (.int i) H) ∨ ∃ k, xs = [.bl k] ∧ Q (.int (if k then 1 else 0)) H
theorem rc_int {i : Int} (p : P (.int i)) : RC K rInt env [.int i] P := rc_keep p fun G H xs Q x1 rx q => by
  obtain ⟨x, rfl, h⟩ := rx.one
  cases h
  exact .inl ⟨i, rfl, q _ (.int _)⟩
theorem rc_intB {b : Bool} (p : P (.int (if b then 1 else 0))) : RC K rInt env [.bool b] P := rc_keep p fun G H xs Q x1 rx q => by
  obtain ⟨x, rfl, h⟩ := rx.one
  cases h
  exact .inr ⟨b, rfl, q _ (.int _)⟩
def rMax2 : List V → Hp → VK → Prop := fun xs H Q => ∃ i j, xs = [.int i, .int j] ∧ Q (.int (if j > i then j else i)) H
def rMin2 : List V → Hp → VK → Prop := fun xs H Q => ∃ i j, xs = [.int i, .int j] ∧ Q (.int (if j < i then j else i)) H
theorem rc_max {i j : Int} (p : P (.int (if j > i then j else i))) : RC K rMax2 env [.int i, .int j] P := rc_keep p fun G H xs Q x1 rx q => by
  obtain ⟨x, y, rfl, h1, h2⟩ := rx.two
  cases h1; cases h2
  exact ⟨i, j, rfl, q _ (.int _)⟩
theorem rc_min {i j : Int} (p : P (.int (if j < i then j else i))) : RC K rMin2 env [.int i, .int j] P := rc_keep p fun G H xs Q x1 rx q => by
  obtain ⟨x, y, rfl, h1, h2⟩ := rx.two
  cases h1; cases h2
  exact ⟨i, j, rfl, q _ (.int _)⟩
def rTuple (K : PySem.W.Frag) : List V → Hp → VK → Prop := fun xs H Q => ∃ p ys, xs = [.ref p] ∧ ((SqL K H p ys ∧ ∀ l, H l = none → Q (.ref l) (upd H l (.tup ys))) ∨ (SqT K H p ys ∧ Q (.ref p) H))
theorem rc_tuple {ds : List PyData} (p : P (.tuple ds)) : RC K (rTuple K) env [.list ds] P := fun B σ G H xs Q I rx q => by
  obtain ⟨x, rfl, h⟩ := rx.one
  cases h with
  | lst h1 h2 =>
    refine ⟨_, _, rfl, .inl ⟨SqL.of (I.exH _ _ h1), fun l nl => ?_⟩⟩
    have n := I.exH.fresh nl
    exact q _ _ _ _ p (Ex.new n) (I.new nl) (.tup upd_same (h2.ex (Ex.new n)))
/-! repr -/
theorem rc_reprN (p : P (.str "None")) : RC K (rRepr K) env [.none] P := rc_keep p fun G H xs Q x1 rx q => by
  obtain ⟨x, rfl, h⟩ := rx.one
  cases h
  exact ⟨_, rfl, .inl ⟨rfl, q _ (.str _)⟩⟩
theorem rc_reprI {i : Int} (hi : i.natAbs.log2 < 1920) (p : P (.str (toString i))) : RC K (rRepr K) env [.int i] P := rc_keep p fun G H xs Q x1 rx q => by
  obtain ⟨x, rfl, h⟩ := rx.one
  cases h
  exact ⟨_, rfl, .inr (.inl ⟨i, rfl, hi, q _ (.str _)⟩)⟩
/-- what repr goes over -/
structure ReprOk (d : PyData) : Prop where
  nd : noDict d = true
  sh : d.showable = true
  hd : d.hasDict = false
  dp : d.depth ≤ 60
  sz : d.shown.length ≤ sizeLine
theorem rc_reprT {ds : List PyData} (o : ReprOk (.tuple ds)) (p : P (.str (PyData.tuple ds).shown)) : RC K (rRepr K) env [.tuple ds] P := rc_keep p fun G H xs Q x1 rx q => by
  obtain ⟨x, rfl, h⟩ := rx.one
  have dp := Dd.dp (K := K) _ _ o.nd (h.ex x1)
  cases h with
  | tup h1 h2 => exact ⟨_, rfl, .inr (.inr ⟨_, _, rfl, dp, o.sh, o.hd, o.dp, o.sz, q _ (.str _)⟩)⟩
theorem rc_reprL {ds : List PyData} (o : ReprOk (.list ds)) (p : P (.str (PyData.list ds).shown)) : RC K (rRepr K) env [.list ds] P := rc_keep p fun G H xs Q x1 rx q => by
  obtain ⟨x, rfl, h⟩ := rx.one
  have dp := Dd.dp (K := K) _ _ o.nd (h.ex x1)
  cases h with
  | lst h1 h2 => exact ⟨_, rfl, .inr (.inr ⟨_, _, rfl, dp, o.sh, o.hd, o.dp, o.sz, q _ (.str _)⟩)⟩
/-! isinstance -/
def tyN : PyData → String
  | .none => "NoneType"
  | .bool _ => "bool"
  | .int _ => "int"
  | .str _ => "str"
  | .list _ => "list"
  | .tuple _ => "tuple"
  | .dict _ => "dict"
theorem Dd.tyx {G H : Hp} {x : V} {d : PyData} (r : Dd G x d) (e : Ex G H) : TyX K H x (.type (tyN d)) := by
  cases r with
  | non => exact .base .non
  | bl b => exact .base (.bl b)
  | int i => exact .base (.int i)
  | str z => exact .base (.str z)
  | lst h1 _ => exact .base (.lst (e _ _ h1))
  | tup h1 _ => exact .base (.tup (e _ _ h1))
  | dct h1 _ => exact .base (.dK (e _ _ h1))
/-- isinstance(d, n) for the four types that are asked -/
def isTy (n : String) (d : PyData) : Bool :=
  match n, d with
  | "int", .int _ => true
  | "int", .bool _ => true
  | "bool", .bool _ => true
  | "str", .str _ => true
  | "tuple", .tuple _ => true
  | "list", .list _ => true
  | _, _ => false
theorem kit_is {d : PyData} {n : String} (h : n = "int" ∨ n = "bool" ∨ n = "str" ∨ n = "tuple" ∨ n = "list") : PySem.W.kitOne K (.type (tyN d)) (.type n) = some (isTy n d) := by
  apply kit_ty
  rcases h with rfl | rfl | rfl | rfl | rfl <;> cases d <;> simp only [tyN] <;> first | (show kitB _ _ = some true; decide +kernel) | (show kitB _ _ = some false; decide +kernel)
theorem ev_isi {te : TE} {n : String} {P : En → PyData → Prop} (hn : n = "int" ∨ n = "bool" ∨ n = "str" ∨ n = "tuple" ∨ n = "list") (h : EvE K te env fun e1 d => P e1 (.bool (isTy n d))) : EvE K (tCB (rIsi K) (tCons te (tCons (tC (.ty n)) tNil))) env P := fun B σ G H Q I q =>
  h B σ G H _ I fun x G1 H1 e1 d p1 x1 I1 r1 => ⟨x, .ty n, _, _, isTy n d, rfl, .ty n, r1.tyx I1.exH, kit_is hn, q _ G1 H1 e1 _ p1 x1 I1 (.bl _)⟩
/-! chains -/
theorem ev_chain {r r' : R2} {ta tb tc : TE} {P : En → PyData → Prop} (h : EvE K ta env fun e1 d1 => EvE K tb e1 fun e2 d2 => RD K r e2 d1 d2 fun f => ∃ k, f = .bool k ∧
    (k = true → EvE K tc e2 fun e3 d3 => RD K r' e3 d2 d3 (P e3)) ∧ (k = false → P e2 (.bool false))) : EvE K (tChain r r' ta tb tc) env P := fun B σ G H Q I q =>
  h B σ G H _ I fun x G1 H1 e1 d1 p1 x1 I1 r1 => p1 B σ G1 H1 _ I1 fun y G2 H2 e2 d2 p2 x2 I2 r2 => p2 B σ G2 H2 x y _ I2 (r1.ex x2) r2 fun v G3 H3 f p3 x3 I3 r3 => by
    obtain ⟨k, rfl, ht, hf⟩ := p3
    cases r3
    refine ⟨k, rfl, ?_⟩
    cases k with
    | true => exact iteT (ht rfl B σ G3 H3 _ I3 fun z G4 H4 e4 d4 p4 x4 I4 r4 => p4 B σ G4 H4 y z Q I4 ((r2.ex x3).ex x4) r4 fun w G5 H5 f5 p5 x5 I5 r5 => q w G5 H5 e4 f5 p5 ((((x1.trans x2).trans x3).trans x4).trans x5) I5 r5)
    | false => exact iteF (q _ G3 H3 e2 _ (hf rfl) ((x1.trans x2).trans x3) I3 (.bl _))
/-! a list of one's own -/
variable {O : Outs}
theorem es_own {i : Nat} (h : ∀ p : Addr, O.nx (env.set i (some (.own p [])))) : EvS K (tAsg (tLst tNil) (gName i)) env O := fun B σ G H D I a b c d f => by
  refine ⟨Nat.zero_le _, fun p np => ?_⟩
  have I2 : EnvOk K B G (upd H p (.lst [])) σ env := by
    refine ⟨I.exH.trans (Ex.new np), I.exG, fun q u hq hm => Ex.new np _ _ (I.keep q u hq hm), I.nog, fun q u hq => ?_, I.mus, I.len, fun j s e => ?_, I.mine, I.inj⟩
    · obtain ⟨w, hw⟩ := I.there q u hq
      exact ⟨w, Ex.new np _ _ hw⟩
    · obtain ⟨v, h1, h2⟩ := I.sl j s e
      exact ⟨v, h1, h2.ex (Ex.refl _) (fun q hq => (h2.has hq).2.1) fun q u hq hu => Ex.new np _ _ hu⟩
  have bp : B.H p = none := by
    cases z : B.H p with
    | none => rfl
    | some o => obtain ⟨u, hu⟩ := I.there p o z; rw [np] at hu; cases hu
  refine a _ G _ _ (h p) (Ex.refl G) (I2.setO (s := .own p []) ⟨rfl, I.exH.fresh np, [], upd_same, .nil⟩ rfl bp fun j t e z => ?_)
  obtain ⟨v, _, h2⟩ := I.sl j t e
  obtain ⟨_, _, o, ho⟩ := h2.has z
  rw [np] at ho; cases ho
theorem es_append {i : Nat} {te : TE} {p : Addr} {ds0 : List PyData} (h0 : env[i]? = some (some (.own p ds0)))
    (h : EvE K te env fun e1 d => ∃ ds, e1[i]? = some (some (.own p ds)) ∧ ds.length < sizeLine ∧ O.nx (e1.set i (some (.own p (ds ++ [d]))))) : EvS K (tDrop (tBM K "list" rAppend (tVar i) (tCons te tNil))) env O := fun B σ G H D I a b c d f => by
  obtain ⟨v0, hv0, rfl, g0, xs0, hx0, r0⟩ := I.sl i _ h0
  refine ⟨_, hv0, .inl ⟨rfl, _, SqL.of hx0⟩, ?_⟩
  refine h B σ G H _ I fun y G1 H1 e1 d1 p1 x1 I1 r1 => ?_
  obtain ⟨ds, he, hl, hn⟩ := p1
  obtain ⟨v1, hv1, rfl, g1, xs1, hx1, r2⟩ := I1.sl i _ he
  refine ⟨p, xs1, y, rfl, rfl, hx1, by rw [r2.length]; exact hl, ?_⟩
  refine a σ G1 _ _ hn x1 (I1.put he rfl rfl rfl ⟨rfl, g1, _, upd_same, r2.append (.cons r1 .nil)⟩)
/-- a list of one's own, read: from now on it stays -/
theorem ev_own {i : Nat} {p : Addr} {ds : List PyData} {P : En → PyData → Prop} (h : env[i]? = some (some (.own p ds))) (q : P (env.set i (some (.dat (.list ds)))) (.list ds)) : EvE K (tVar i) env P := fun B σ G H Q I k => by
  obtain ⟨v, hv, rfl, g, xs, hx, r⟩ := I.sl i _ h
  have bp : B.H p = none := by
    rcases I.mine i _ p h rfl with m | m
    · exact m
    · cases m.2
  have I2 := (I.forget i).freeze hx g (fun j s e a => by
    by_cases z : i = j
    · subst z
      by_cases q : i < env.length
      · rw [List.getElem?_set_self q] at e; cases e
      · rw [List.getElem?_eq_none (by omega)] at h; cases h
    · rw [List.getElem?_set_ne z] at e; exact z (I.inj _ _ _ _ _ h e rfl a)) bp
  have rd : Dd (upd G p (.lst xs)) (.ref p) (.list ds) := .lst upd_same (r.ex (Ex.new g))
  have I3 := I2.tell hv rd
  rw [List.set_set] at I3
  exact ⟨_, hv, k _ _ H _ _ q (Ex.new g) I3 rd⟩
end
end FD

set_option Elab.async false
set_option linter.all false
set_option maxRecDepth 100000
set_option maxHeartbeats 2000000
namespace FD
open PySem PySem.Spec PyProof.Rows L2

/-! ### a def's promise where no repr is under way around it -/
section
variable (P : Program) (w : World) (K : PySem.W.Frag) (mg : Str → Option Value) (base : Heap)
structure FnG (k : Nat) (f : Addr) (fd : FuncData) (ps : List Str) (sp : Sp) : Prop where
  len : ∀ vs H Q E, sp vs H Q E → vs.length = ps.length
  run : ∀ (A : Around) (outer : List PySem.Env) (s : Shared) (H : Hp) (args : Args) (us : List Value) (vs : List V) (Q : VK), A.guards = some [] → Room k A → Env0 P w K mg base A outer s H →
    BindsTo s fd args (ps.zip us) → Vals vs us → sp vs H Q E0 → codeAny (model P w) A (.call (.ref f) args) (fun r s' => ∃ u, r = .ok (.ret u) ∧ CE outer P w H s Q u s') s
/-- a def that can be called by its name -/
structure Cal (k : Nat) (x : Str) (ps : List Str) (sp : Sp) : Prop where
  ex : ∃ f fd, FnG P w K mg base k f fd ps sp ∧ mg x = some (.ref f) ∧ PySem.W.keepIn K (.ref f) = true ∧ Binds K fd ps []
end
section
variable {P : Program} {w : World} {K : PySem.W.Frag} {mg : Str → Option Value} {base : Heap}
theorem fnG_of {x qual : Str} {st : Stmt} {f : Addr} {fd : FuncData} {N ps : List Str} {k : Nat} {sp : Sp} (F : L2.Fun K x qual st f fd) (S : FnScope N ps (defScope st)) (len : ∀ vs H Q E, sp vs H Q E → vs.length = ps.length)
    (hb : ∀ (cdv : Value) (A : Around) (outer : List PySem.Env) (s : Shared) (H : Hp) (vs : List V) (Q : VK), A.guards = some [] → Room k (A.deeper (envOfC qual (defScope st) s.heap.objs.size f cdv)) → sp vs H Q E0 →
      ∃ t, PSs (cxOf CX0 P w K mg base N qual (defScope st) f cdv A outer s H E0).nox (defBody st) t ∧ t { nx := fun _ H' => Q .non H', rt := Q } (start N vs) H) : FnG P w K mg base (k + 1) f fd ps sp := by
  obtain ⟨oc, od, kV, doc, pm, an, cdv, ct, osl, rfl, lk, hcd⟩ := F.ex
  refine ⟨len, fun A outer s H args us vs Q hg room e0 bd rel hsp => ?_⟩
  have hln := len _ _ _ _ hsp
  have kin : K.In s.heap := e0.mod.kin.keeps fun b o z => (e0.bs b o z).1
  have nl : s.heap.NoLimit := e0.mod.nolimit.keeps fun b o z => (e0.bs b o z).1
  have kinds : ∀ z ∈ ps.zip us, (defScope st).names.lookup z.1 = some .local ∨ ((defScope st).names.lookup z.1 = some .cell ∧ ((cellsFrom (s.heap.objs.size + 1) (defScope st).names []).lookup z.1).isSome = true) := by
    rintro ⟨m, v⟩ hz
    rcases S.par m (List.of_mem_zip hz).1 with q | q
    · exact .inl q
    · exact .inr ⟨q, PySem.W.cellsFrom_some _ _ _ (.inl q)⟩
  refine codeAny_call_function room.depth (kin _ _ lk) rfl S.co S.gen rfl (PySem.W.codeRec_of kin hcd) (bd _ _ _ _ ?_)
  refine wpAny_newFunctionEnv_cells S.kind kinds fun env henv s1 hx => ?_
  subst henv
  refine ⟨nl.keeps hx.toInCall.keep, codeAny_func ?_⟩
  obtain ⟨t, ht, hq⟩ := hb cdv A outer s H vs Q hg (room.deeper _) hsp
  have J : Inv (cxOf CX0 P w K mg base N qual (defScope st) f cdv A outer s H E0) [] (start N vs) H s1 := inv_start S room.hd e0 hln rel hx
  refine wpAny_mono (ht.nox.run [] s1 (start N vs) H _ J hq) (fun fl s2 h2 => ?_) fun e s2 h2 => ?_
  · cases fl with
    | ret u =>
      obtain ⟨v, σ', H', J', rv, q⟩ := h2
      exact ⟨u, rfl, v, H', J'.os, J'.bare, J'.base, J'.hok, rv, q⟩
    | next =>
      obtain ⟨σ', H', J', q⟩ := h2
      exact ⟨Value.none, rfl, .non, H', J'.os, J'.bare, J'.base, J'.hok, rfl, q⟩
    | brk => obtain ⟨_, _, _, q⟩ := h2; exact q.elim
    | cont => obtain ⟨_, _, _, q⟩ := h2; exact q.elim
  · exact wpAny_mono h2 (fun _ _ z => False.elim z) fun _ _ z => False.elim z
/-- a level more -/
theorem FnG.mono {j k : Nat} {f : Addr} {fd : FuncData} {ps : List Str} {sp : Sp} (F : FnG P w K mg base j f fd ps sp) (h : j ≤ k) : FnG P w K mg base k f fd ps sp :=
  ⟨F.len, fun A outer s H args us vs Q hg hr => F.run A outer s H args us vs Q hg (hr.mono h)⟩
end
/-- a call of a def that promises sp -/
def callOf (sp : Sp) : List V → Hp → VK → Prop := fun vs H Q => sp vs H Q E0
/-! ### calls -/
section
variable {X : Cx} {k : Nat} {ps : List Str} {sp : Sp} {x : Str} {p pos : Pos} {e : Expr} {es : List Expr} {t : TA}
theorem runG {f : Addr} {fd : FuncData} {pins : List (Addr × Obj)} {σ : L2.St} {H : Hp} {s : Shared} {Q : VK} {us : List Value} {vs : List V} (F : FnG X.prog X.w X.K X.mg X.base k f fd ps sp) (hg : X.A.guards = some []) (hr : Room k X.A) (hb : Binds X.K fd ps [])
    (I : Inv X pins σ H s) (r : Vals vs us) (h : sp vs H Q E0) : wpAny (model X.prog X.w) X.A (call (.ref f) us) (EP X pins σ Q) X.xe s := by
  have hl : (us ++ []).length = ps.length := by rw [List.append_nil, ← r.length]; exact F.len _ _ _ _ h
  have bd := hb s us I.kIn hl
  rw [List.append_nil] at bd
  refine wpAny_call (codeAny_mono (F.run X.A X.stack s H ⟨us, []⟩ us vs Q hg hr I.env0 bd r h) fun rr s' hq => ?_)
  obtain ⟨u, rfl, hc⟩ := hq
  exact I.after hc
theorem pe_cal (C : Cal X.prog X.w X.K X.mg X.base k x ps sp) (hg : X.A.guards = some []) (hr : Room k X.A) (hx : Gl X x) (ha : PA X (e :: es) t) (hdb : (x == ("__debug__" : Str)) = false := by decide)
    (he : starEach (e :: es) X.env = (false, eval e X.env) :: starEach es X.env := by rfl) (hpl : (backTo pos (starEach es X.env)).any (·.1) = false := by rfl) :
    PE X (.Call (.Name x p) (e :: es) [] pos) (tCB (callOf sp) t) := by
  obtain ⟨f, fd, F, hm, hk, hb⟩ := C.ex
  refine ⟨fun pins s σ H Q J h => wpAny_Call_Name_kw (ld_glob J hx hm ?_ hdb)⟩
  exact PySem.W.callWith_K (h₀ := X.base) J.ok.mod.kin hk (thn (ha.run pos pins s σ H _ J h) fun us s1 ⟨vs, H1, J1, r, q⟩ => ⟨J1.kIn, runG F hg hr hb J1 r q⟩) he hpl
theorem pe_cal0 (C : Cal X.prog X.w X.K X.mg X.base k x ps sp) (hg : X.A.guards = some []) (hr : Room k X.A) (hx : Gl X x) (hdb : (x == ("__debug__" : Str)) = false := by decide) :
    PE X (.Call (.Name x p) [] [] pos) (tCB (callOf sp) tNil) := by
  obtain ⟨f, fd, F, hm, hk, hb⟩ := C.ex
  refine ⟨fun pins s σ H Q J h => wpAny_Call_Name_kw (ld_glob J hx hm ?_ hdb)⟩
  exact PySem.W.callWith_K0 J.kIn hk (runG (us := []) F hg hr hb J .nil h)
end
/-! ### promises over data -/
/-- from data to data; all that was known stays -/
def spD (n : Nat) (pre : List PyData → Prop) (post : List PyData → PyData → Prop) : Sp := fun vs H Q _ => ∃ (G : Hp) (ds : List PyData), Ex G H ∧ DdAll G vs ds ∧ ds.length = n ∧ pre ds ∧
  ∀ v G' H' d, post ds d → Ex G G' → Ex G' H' → Ex H H' → (∀ q o, H q = some o → G q = none → G' q = none) → Dd G' v d → Q v H'
/-- the first argument is the pile, which changes -/
def spP (n : Nat) (pre : List PyData → Prop) (post : List PyData → PyData → Prop) : Sp := fun vs H Q _ => ∃ (G : Hp) (ds : List PyData) (p : Addr) (rest : List V), vs = .ref p :: rest ∧ Ex G H ∧ G p = none ∧ PileAt H p ∧ DdAll G rest ds ∧ ds.length = n ∧ pre ds ∧
  ∀ v G' H' d, post ds d → Ex G G' → Ex G' H' → (∀ q o, H q = some o → q ≠ p → H' q = some o) → G' p = none → PileAt H' p → (∀ q o, H q = some o → G q = none → G' q = none) → Dd G' v d → Q v H'
/-- the first argument is the script; a new pile comes -/
def spN (K : PySem.W.Frag) : Sp := fun vs H Q _ => ∃ (G : Hp) (p : Addr) (ns : List Int) (k : Int), vs = [.ref p, .int k] ∧ Ex G H ∧ SqL K G p (ns.map V.int) ∧ ns.length ≤ 63 ∧ 0 ≤ k ∧
  ∀ q G' H', Ex G G' → Ex G' H' → Ex H H' → (∀ q o, H q = some o → G q = none → G' q = none) → H q = none → G' q = none → PileAt H' q → Q (.ref q) H'
section
variable {K : PySem.W.Frag} {env : En} {P : En → PyData → Prop} {ta : TA} {pre : List PyData → Prop} {post : List PyData → PyData → Prop} {n : Nat} {O : Outs}
/-- behind a call that leaves all as it was -/
theorem EnvOk.went {B : Bs} {G H G' H' : Hp} {σ : L2.St} (I : EnvOk K B G H σ env) (x1 : Ex G G') (x2 : Ex G' H') (x3 : Ex H H') (fr : ∀ q o, H q = some o → G q = none → G' q = none) : EnvOk K B G' H' σ env :=
  ⟨x2, I.exG.trans x1, fun q o a b => x3 _ _ (I.keep q o a b), fun q o a b => by obtain ⟨u, hu⟩ := I.there q o a; exact fr q u hu (I.nog q o a b), fun q o a => by obtain ⟨u, hu⟩ := I.there q o a; exact ⟨u, x3 _ _ hu⟩, I.mus, I.len,
    fun i s e => by
      obtain ⟨v, h1, h2⟩ := I.sl i s e
      exact ⟨v, h1, h2.ex x1 (fun p hp => by obtain ⟨_, g, o, ho⟩ := h2.has hp; exact fr p o ho g) fun p o _ ho => x3 _ _ ho⟩, I.mine, I.inj⟩
theorem ev_call (h : EvAs K ta env fun e1 ds => ds.length = n ∧ pre ds ∧ ∀ d, post ds d → P e1 d) : EvE K (tCB (callOf (spD n pre post)) ta) env P := fun B σ G H Q I q =>
  h B σ G H _ I fun vs G1 H1 e1 ds p1 x1 I1 r1 => ⟨G1, ds, I1.exH, r1, p1.1, p1.2.1, fun v G2 H2 d pd x2 x3 x4 fr rd => q v G2 H2 e1 d (p1.2.2 d pd) (x1.trans x2) (I1.went x2 x3 x4 fr) rd⟩
/-- behind a call that changed the pile -/
theorem EnvOk.wentP {B : Bs} {G H G' H' : Hp} {σ : L2.St} {i : Nat} {p : Addr} (I : EnvOk K B G H σ env) (hi : env[i]? = some (some (.pile p))) (x1 : Ex G G') (x2 : Ex G' H') (x3 : ∀ q o, H q = some o → q ≠ p → H' q = some o) (gp : G' p = none) (pl : PileAt H' p)
    (fr : ∀ q o, H q = some o → G q = none → G' q = none) : EnvOk K B G' H' σ env := by
  have th : ∀ q o, H q = some o → ∃ u, H' q = some u := fun q o a => by
    by_cases z : q = p
    · subst z; obtain ⟨a, b, c, e⟩ := pl; exact ⟨_, e⟩
    · exact ⟨o, x3 q o a z⟩
  refine ⟨x2, I.exG.trans x1, fun q o a b => x3 _ _ (I.keep q o a b) fun z => ?_, fun q o a b => by obtain ⟨u, hu⟩ := I.there q o a; exact fr q u hu (I.nog q o a b), fun q o a => by obtain ⟨u, hu⟩ := I.there q o a; exact th q u hu, I.mus, I.len,
    fun j s e => ?_, I.mine, I.inj⟩
  · subst z
    rcases I.mine i _ q hi rfl with m | m
    · rw [m] at a; cases a
    · exact b m.1
  · obtain ⟨v, h1, h2⟩ := I.sl j s e
    refine ⟨v, h1, ?_⟩
    by_cases z : i = j
    · subst z
      rw [hi] at e
      cases e
      exact ⟨h2.1, gp, pl⟩
    · exact h2.ex x1 (fun r hr => by obtain ⟨_, g, o, ho⟩ := h2.has hr; exact fr r o ho g) fun r o hr ho => x3 r o ho fun w => z (I.inj _ _ _ _ _ hi e rfl (w ▸ hr))
theorem ev_callP {i : Nat} {p : Addr} (hi : env[i]? = some (some (.pile p))) (h : EvAs K ta env fun e1 ds => e1[i]? = some (some (.pile p)) ∧ ds.length = n ∧ pre ds ∧ ∀ d, post ds d → P e1 d) :
    EvE K (tCB (callOf (spP n pre post)) (tCons (tVar i) ta)) env P := fun B σ G H Q I q => by
  obtain ⟨v, h1, rfl, g1, pl⟩ := I.sl i _ hi
  refine ⟨_, h1, ?_⟩
  refine h B σ G H _ I fun vs G1 H1 e1 ds p1 x1 I1 r1 => ?_
  obtain ⟨v2, h2, e2, g2, pl2⟩ := I1.sl i _ p1.1
  exact ⟨G1, ds, p, vs, rfl, I1.exH, g2, pl2, r1, p1.2.1, p1.2.2.1, fun v G2 H2 d pd x2 x3 x4 gp pl fr rd => q v G2 H2 e1 d (p1.2.2.2 d pd) (x1.trans x2) (I1.wentP p1.1 x2 x3 x4 gp pl fr) rd⟩
/-- pile = .. (a new one) -/
theorem es_pile {i j : Nat} {p : Addr} {ns : List Int} {te : TE} (hi : env[i]? = some (some (.script p ns))) (hl : ns.length ≤ 63) (hk : EvE K te env fun e1 d => e1 = env ∧ ∃ k : Int, d = .int k ∧ 0 ≤ k) (h : ∀ q : Addr, O.nx (env.set j (some (.pile q)))) :
    EvS K (tAsg (tCB (callOf (spN K)) (tCons (tVar i) (tCons te tNil))) (gName j)) env O := fun B σ G H D I a b c d f => by
  obtain ⟨v, h1, rfl, g1⟩ := I.sl i _ hi
  refine ⟨_, h1, ?_⟩
  refine hk B σ G H _ I fun y G1 H1 e1 d1 p1 x1 I1 r1 => ?_
  obtain ⟨rfl, k, rfl, k0⟩ := p1
  cases r1
  refine ⟨G1, p, ns, k, rfl, I1.exH, SqL.ex g1 x1, hl, k0, fun q G2 H2 x2 x3 x4 fr nq gq pl => ?_⟩
  have I2 := I1.went x2 x3 x4 fr
  have bq : B.H q = none := by
    cases z : B.H q with
    | none => rfl
    | some o => obtain ⟨u, hu⟩ := I1.there q o z; rw [nq] at hu; cases hu
  refine a _ G2 H2 _ (h q) (x1.trans x2) (I2.setO (s := .pile q) ⟨rfl, gq, pl⟩ rfl bq fun m t e z => ?_)
  obtain ⟨_, _, hs⟩ := I1.sl m t e
  obtain ⟨_, _, o, ho⟩ := hs.has z
  rw [nq] at ho; cases ho
/-- return [a, b, c], the new pile -/
theorem es_retN (h : EvAs K ta env fun e1 ds => (∃ a b c : Int, ds = [.int a, .int b, .int c]) ∧ O.rn (fun _ H p => PileAt H p) e1) : EvS K (tRet (tLst ta)) env O := fun B σ G H D I a b c d f =>
  h B σ G H _ I fun vs G1 H1 e1 ds p1 x1 I1 r1 => by
    obtain ⟨⟨i, j, k, rfl⟩, hn⟩ := p1
    cases r1 with
    | cons r1 r2 =>
      cases r1
      cases r2 with
      | cons r2 r3 =>
        cases r2
        obtain ⟨z, rfl, r4⟩ := r3.one
        cases r4
        refine ⟨by show 3 ≤ sizeLine; decide, fun p np => ?_⟩
        have bp : B.H p = none := by
          cases z : B.H p with
          | none => rfl
          | some o => obtain ⟨u, hu⟩ := I1.there p o z; rw [np] at hu; cases hu
        refine f _ p σ G1 _ e1 hn x1 ?_ (I1.exH.fresh np) ⟨i, j, k, upd_same⟩ bp
        refine ⟨I1.exH.trans (Ex.new np), I1.exG, fun q u hq hm => Ex.new np _ _ (I1.keep q u hq hm), I1.nog, fun q u hq => ?_, I1.mus, I1.len, fun j s e => ?_, I1.mine, I1.inj⟩
        · obtain ⟨w, hw⟩ := I1.there q u hq
          exact ⟨w, Ex.new np _ _ hw⟩
        · obtain ⟨v, h1, h2⟩ := I1.sl j s e
          exact ⟨v, h1, h2.ex (Ex.refl _) (fun q hq => (h2.has hq).2.1) fun q u _ hu => Ex.new np _ _ hu⟩
end
end FD

set_option Elab.async false
set_option linter.all false
set_option maxRecDepth 100000
set_option maxHeartbeats 2000000
namespace FD
open PySem PySem.Spec PyProof.Rows L2

/-- the slots at a def's entry -/
def stD (n : Nat) (ds : List PyData) : En := ds.map (fun d => some (.dat d)) ++ List.replicate (n - ds.length) none
theorem stD_get {n : Nat} {ds : List PyData} {i : Nat} {s : Sl} (h : (stD n ds)[i]? = some (some s)) : ∃ d, ds[i]? = some d ∧ s = .dat d := by
  unfold stD at h
  by_cases q : i < ds.length
  · rw [List.getElem?_append_left (by simpa using q), List.getElem?_map, List.getElem?_eq_getElem q] at h
    cases h
    exact ⟨_, List.getElem?_eq_getElem q, rfl⟩
  · rw [List.getElem?_append_right (by simpa using q), List.getElem?_replicate] at h
    split at h <;> cases h
theorem start_get {N : List Str} {vs : List V} {i : Nat} {v : V} (h : vs[i]? = some v) : (start N vs)[i]? = some (some v) := by
  have q : i < vs.length := (List.getElem?_eq_some_iff.mp h).1
  unfold L2.start
  rw [List.getElem?_append_left (by simpa using q), List.getElem?_map, h]
  rfl
theorem start_len {N : List Str} {vs : List V} : (start N vs).length = vs.length + (N.length - vs.length) := by
  unfold L2.start; simp
theorem stD_len {n : Nat} {ds : List PyData} : (stD n ds).length = ds.length + (n - ds.length) := by
  unfold stD; simp
section
variable {P : Program} {w : World} {K : PySem.W.Frag} {mg : Str → Option Value} {base : Heap} {x qual : Str} {st : Stmt} {f : Addr} {fd : FuncData} {N ps : List Str} {k : Nat}
theorem startD {G H : Hp} {vs : List V} {ds : List PyData} (e : Ex G H) (r : DdAll G vs ds) : EnvOk K ⟨H, G, fun _ => False⟩ G H (start N vs) (stD N.length ds) := by
  refine ⟨e, Ex.refl G, fun _ _ a _ => a, fun _ _ _ a => a, fun _ o a => ⟨o, a⟩, fun _ z => z.elim, ?_, fun i s h => ?_, fun i s p h a => ?_, fun i j s t p h1 h2 a1 a2 => ?_⟩
  · rw [start_len, stD_len, r.length]
  · obtain ⟨d, hd, rfl⟩ := stD_get h
    obtain ⟨v, hv, rv⟩ := r.get hd
    exact ⟨v, start_get hv, rv⟩
  · obtain ⟨d, _, rfl⟩ := stD_get h
    cases a
  · obtain ⟨d, _, rfl⟩ := stD_get h1
    cases a1
/-- a def from data to data -/
theorem fnD (F : L2.Fun K x qual st f fd) (S : FnScope N ps (defScope st)) (pre : List PyData → Prop) (post : List PyData → PyData → Prop)
    (hb : ∀ (cdv : Value) (A : Around) (outer : List PySem.Env) (s : Shared) (H : Hp), A.guards = some [] → Room k (A.deeper (envOfC qual (defScope st) s.heap.objs.size f cdv)) →
      ∃ t, PSs (cxOf CX0 P w K mg base N qual (defScope st) f cdv A outer s H E0).nox (defBody st) t ∧
        ∀ ds : List PyData, ds.length = ps.length → pre ds → EvS K t (stD N.length ds) { nx := fun _ => post ds .none, rt := fun _ d => post ds d }) : FnG P w K mg base (k + 1) f fd ps (spD ps.length pre post) := by
  refine fnG_of F S (fun vs H Q E ⟨G, ds, _, r, hl, _⟩ => r.length.trans hl) fun cdv A outer s H vs Q hg hr ⟨G, ds, e, r, hl, hp, q⟩ => ?_
  obtain ⟨t, ht, ev⟩ := hb cdv A outer s H hg hr
  refine ⟨t, ht, ev ds hl hp _ _ G H _ (startD e r) (fun σ' G' H' env' p x' I => ?_) (fun v G' H' σ' env' d p x' I rd => ?_) (fun _ _ _ _ z => z.elim) (fun _ _ _ _ z => z.elim) (fun _ _ _ _ _ _ z => z.elim)⟩
  · exact q .non G' H' .none p x' I.exH (fun a o h => I.keep a o h fun z => z) (fun a o h g => I.nog a o h g) .non
  · exact q v G' H' d p x' I.exH (fun a o h => I.keep a o h fun z => z) (fun a o h g => I.nog a o h g) rd
theorem startP {G H : Hp} {p : Addr} {vs : List V} {ds : List PyData} (e : Ex G H) (g : G p = none) (pl : PileAt H p) (r : DdAll G vs ds) : EnvOk K ⟨H, G, fun q => q = p⟩ G H (start N (.ref p :: vs)) (some (.pile p) :: stD (N.length - 1) ds) := by
  have hs : ∀ (i : Nat) (s : Sl), (some (Sl.pile p) :: stD (N.length - 1) ds)[i]? = some (some s) → (i = 0 ∧ s = .pile p) ∨ ∃ j d, i = j + 1 ∧ ds[j]? = some d ∧ s = .dat d := fun i s h => by
    cases i with
    | zero => rw [List.getElem?_cons_zero] at h; cases h; exact .inl ⟨rfl, rfl⟩
    | succ j =>
      rw [List.getElem?_cons_succ] at h
      obtain ⟨d, hd, rfl⟩ := stD_get h
      exact .inr ⟨j, d, rfl, hd, rfl⟩
  refine ⟨e, Ex.refl G, fun _ _ a _ => a, fun _ _ _ a => a, fun _ o a => ⟨o, a⟩, fun q z => ?_, ?_, fun i s h => ?_, fun i s q h a => ?_, fun i j s t q h1 h2 a1 a2 => ?_⟩
  · obtain rfl : q = p := z
    obtain ⟨a, b, c, z⟩ := pl
    exact ⟨_, z⟩
  · rw [start_len, List.length_cons, List.length_cons, stD_len, r.length]; omega
  · rcases hs i s h with ⟨rfl, rfl⟩ | ⟨j, d, rfl, hd, rfl⟩
    · exact ⟨.ref p, rfl, rfl, g, pl⟩
    · obtain ⟨v, hv, rv⟩ := r.get hd
      exact ⟨v, start_get (by rw [List.getElem?_cons_succ]; exact hv), rv⟩
  · rcases hs i s h with ⟨rfl, rfl⟩ | ⟨j, d, rfl, hd, rfl⟩
    · cases a; exact .inr ⟨rfl, rfl⟩
    · cases a
  · rcases hs i s h1 with ⟨rfl, rfl⟩ | ⟨_, _, _, _, rfl⟩
    · rcases hs j t h2 with ⟨rfl, rfl⟩ | ⟨_, _, _, _, rfl⟩
      · rfl
      · cases a2
    · cases a1
/-- a def whose first argument is the pile -/
theorem fnP (F : L2.Fun K x qual st f fd) (S : FnScope N ps (defScope st)) (hps : ps ≠ []) (pre : List PyData → Prop) (post : List PyData → PyData → Prop)
    (hb : ∀ (cdv : Value) (A : Around) (outer : List PySem.Env) (s : Shared) (H : Hp), A.guards = some [] → Room k (A.deeper (envOfC qual (defScope st) s.heap.objs.size f cdv)) →
      ∃ t, PSs (cxOf CX0 P w K mg base N qual (defScope st) f cdv A outer s H E0).nox (defBody st) t ∧
        ∀ (p : Addr) (ds : List PyData), ds.length = ps.length - 1 → pre ds → EvS K t (some (.pile p) :: stD (N.length - 1) ds) { nx := fun _ => False, rt := fun e d => e[0]? = some (some (.pile p)) ∧ post ds d }) :
    FnG P w K mg base (k + 1) f fd ps (spP (ps.length - 1) pre post) := by
  refine fnG_of F S (fun vs H Q E ⟨G, ds, p, rest, hv, _, _, _, r, hl, _⟩ => ?_) fun cdv A outer s H vs Q hg hr ⟨G, ds, p, rest, hv, e, g, pl, r, hl, hp, q⟩ => ?_
  · rw [hv, List.length_cons, r.length, hl]
    cases ps with
    | nil => exact absurd rfl hps
    | cons a b => simp
  · subst hv
    obtain ⟨t, ht, ev⟩ := hb cdv A outer s H hg hr
    refine ⟨t, ht, ev p ds hl hp _ _ G H _ (startP e g pl r) (fun _ _ _ _ z => z.elim) (fun v G' H' σ' env' d pq x' I rd => ?_) (fun _ _ _ _ z => z.elim) (fun _ _ _ _ z => z.elim) (fun _ _ _ _ _ _ z => z.elim)⟩
    obtain ⟨v0, _, hs⟩ := I.sl 0 _ pq.1
    exact q v G' H' d pq.2 x' I.exH (fun a o h n => I.keep a o h n) hs.2.1 hs.2.2 (fun a o h g => I.nog a o h g) rd
theorem startN {G H : Hp} {p : Addr} {ns : List Int} {vs : List V} {ds : List PyData} (e : Ex G H) (g : SqL K G p (ns.map V.int)) (r : DdAll G vs ds) : EnvOk K ⟨H, G, fun _ => False⟩ G H (start N (.ref p :: vs)) (some (.script p ns) :: stD (N.length - 1) ds) := by
  have hs : ∀ (i : Nat) (s : Sl), (some (Sl.script p ns) :: stD (N.length - 1) ds)[i]? = some (some s) → (i = 0 ∧ s = .script p ns) ∨ ∃ j d, i = j + 1 ∧ ds[j]? = some d ∧ s = .dat d := fun i s h => by
    cases i with
    | zero => rw [List.getElem?_cons_zero] at h; cases h; exact .inl ⟨rfl, rfl⟩
    | succ j =>
      rw [List.getElem?_cons_succ] at h
      obtain ⟨d, hd, rfl⟩ := stD_get h
      exact .inr ⟨j, d, rfl, hd, rfl⟩
  refine ⟨e, Ex.refl G, fun _ _ a _ => a, fun _ _ _ a => a, fun _ o a => ⟨o, a⟩, fun _ z => z.elim, ?_, fun i s h => ?_, fun i s q h a => ?_, fun i j s t q h1 h2 a1 a2 => ?_⟩
  · rw [start_len, List.length_cons, List.length_cons, stD_len, r.length]; omega
  · rcases hs i s h with ⟨rfl, rfl⟩ | ⟨j, d, rfl, hd, rfl⟩
    · exact ⟨.ref p, rfl, rfl, g⟩
    · obtain ⟨v, hv, rv⟩ := r.get hd
      exact ⟨v, start_get (by rw [List.getElem?_cons_succ]; exact hv), rv⟩
  · rcases hs i s h with ⟨rfl, rfl⟩ | ⟨j, d, rfl, hd, rfl⟩ <;> cases a
  · rcases hs i s h1 with ⟨rfl, rfl⟩ | ⟨_, _, _, _, rfl⟩ <;> cases a1
/-- the def that makes the pile -/
theorem fnN (F : L2.Fun K x qual st f fd) (S : FnScope N ps (defScope st)) (hps : ps.length = 2)
    (hb : ∀ (cdv : Value) (A : Around) (outer : List PySem.Env) (s : Shared) (H : Hp), A.guards = some [] → Room k (A.deeper (envOfC qual (defScope st) s.heap.objs.size f cdv)) →
      ∃ t, PSs (cxOf CX0 P w K mg base N qual (defScope st) f cdv A outer s H E0).nox (defBody st) t ∧
        ∀ (p : Addr) (ns : List Int) (j : Int), ns.length ≤ 63 → 0 ≤ j → EvS K t (some (.script p ns) :: stD (N.length - 1) [.int j]) { nx := fun _ => False, rn := fun F _ => F = fun _ H p => PileAt H p }) : FnG P w K mg base (k + 1) f fd ps (spN K) := by
  refine fnG_of F S (fun vs H Q E ⟨G, p, ns, j, hv, _⟩ => by rw [hv, hps]; rfl) fun cdv A outer s H vs Q hg hr ⟨G, p, ns, j, hv, e, g, hl, hj, q⟩ => ?_
  subst hv
  obtain ⟨t, ht, ev⟩ := hb cdv A outer s H hg hr
  refine ⟨t, ht, ev p ns j hl hj _ _ G H _ (startN e g (.cons (.int j) .nil)) (fun _ _ _ _ z => z.elim) (fun _ _ _ _ _ _ z => z.elim) (fun _ _ _ _ z => z.elim) (fun _ _ _ _ z => z.elim) (fun F a σ' G' H' env' hF x' I ga pa ba => ?_)⟩
  subst hF
  exact q a G' H' x' I.exH (fun a o h => I.keep a o h fun z => z) (fun a o h g => I.nog a o h g) ba ga pa
/-- the law -/
def spL (K : PySem.W.Frag) : Sp := fun vs H Q _ => ∃ (p : Addr) (ns : List Int), vs = [.ref p] ∧ SqL K H p (ns.map V.int) ∧ ns.length ≤ 63 ∧ ∀ H', Q (.bl true) H'
theorem fnL (F : L2.Fun K x qual st f fd) (S : FnScope N ps (defScope st)) (hps : ps.length = 1)
    (hb : ∀ (cdv : Value) (A : Around) (outer : List PySem.Env) (s : Shared) (H : Hp), A.guards = some [] → Room k (A.deeper (envOfC qual (defScope st) s.heap.objs.size f cdv)) →
      ∃ t, PSs (cxOf CX0 P w K mg base N qual (defScope st) f cdv A outer s H E0).nox (defBody st) t ∧
        ∀ (p : Addr) (ns : List Int), ns.length ≤ 63 → EvS K t (some (.script p ns) :: stD (N.length - 1) []) { nx := fun _ => False, rt := fun _ d => d = .bool true }) : FnG P w K mg base (k + 1) f fd ps (spL K) := by
  refine fnG_of F S (fun vs H Q E ⟨p, ns, hv, _⟩ => by rw [hv, hps]; rfl) fun cdv A outer s H vs Q hg hr ⟨p, ns, hv, g, hl, q⟩ => ?_
  subst hv
  obtain ⟨t, ht, ev⟩ := hb cdv A outer s H hg hr
  refine ⟨t, ht, ev p ns hl _ _ H H _ (startN (Ex.refl H) g .nil) (fun _ _ _ _ z => z.elim) (fun v G' H' σ' env' d pd x' I rd => ?_) (fun _ _ _ _ z => z.elim) (fun _ _ _ _ z => z.elim) (fun _ _ _ _ _ _ z => z.elim)⟩
  obtain rfl : d = .bool true := pd
  cases rd
  exact q H'
end
/-! ### the law's end -/
theorem lawG_call {P : Program} {w : World} {K : PySem.W.Frag} {mg mb : Str → Option Value} {k : Nat} {fa a : Addr} {fd : FuncData} {x : Str} {s₁ : Shared} {vs : List Value} {ns : List Int}
    (KX : K.In s₁.heap) (hm : s₁.heap.Ns mainGlobals mg) (hb : s₁.heap.Ns builtinsNs mb) (hbb : ∀ y : Str, y ≠ "__name__" → mb y = bootBuiltins y) (nl : s₁.heap.NoLimit) (gs : s₁.gens = #[])
    (ha : s₁.heap.get? a = some { cls := .type "list", data := .seq vs.toArray }) (hi : IntsAre vs ns) (hl : ns.length ≤ 63) (room : Room k callerA)
    (F : ∀ base : Heap, K.In base → base.Ns mainGlobals mg → FnG P w K mg base k fa fd [x] (spL K)) (bd : ∀ (s : Shared) (u : Value), BindsTo s fd ⟨[u], []⟩ [(x, u)]) :
    codeAny (model P w) callerA (.call (.ref fa) ⟨[.ref a], []⟩) (fun r s' => r = .ok (.ret (.bool true)) ∧ OldK s₁.heap s'.heap ∧ s'.os = s₁.os ∧ AllBare s'.gens) s₁ := by
  have rv := vals_ints hi
  have lz : ns.length ≤ sizeLine := Nat.le_trans hl (by decide)
  have main : ∀ H : Hp, (∀ b, H b = none ∨ (b = a ∧ ∃ o ys, H b = some (.frz o (.lst ys)))) → SqL K H a (ns.map V.int) → HOk P w H s₁.heap → (H a ≠ none → K.lookup a = none) →
      codeAny (model P w) callerA (.call (.ref fa) ⟨[.ref a], []⟩) (fun r s' => r = .ok (.ret (.bool true)) ∧ OldK s₁.heap s'.heap ∧ s'.os = s₁.os ∧ AllBare s'.gens) s₁ := by
    intro H hO hS hok hK
    have nodict : ∀ {b : Addr} {o : Obj} {es : Array DictEntry} {ep : Nat}, s₁.heap.get? b = some o → o.data = .dict es ep → H b = none := fun {b o es ep} e d => by
      rcases hO b with z | ⟨rfl, _⟩
      · exact z
      · rw [ha] at e
        cases e
        cases d
    have nsH : ∀ {b : Addr} {m : Str → Option Value}, s₁.heap.Ns b m → (hidT s₁.heap H).Ns b m := fun {b m} ⟨o, es, ep, e, d, r⟩ => ⟨o, es, ep, hidT_get e (nodict e d), d, r⟩
    have kinH : K.In (hidT s₁.heap H) := fun b o e => hidT_get (KX b o e) (by
      rcases hO b with z | ⟨rfl, _, _, z⟩
      · exact z
      · rw [hK (by rw [z]; simp)] at e
        cases e)
    obtain ⟨mc, c1, c2⟩ := nl
    have e0 : Env0 P w K mg (hidT s₁.heap H) callerA [] s₁ H :=
      ⟨rfl, ⟨kinH, nsH hm, ⟨mb, nsH hb, hbb⟩, mc, nsH c1, c2⟩, fun b o e => of_hidT e, Nat.le_of_eq (hidT_size _ _), trivial, fun b hb => (by cases hb), hok, .of_eq gs⟩
    refine codeAny_mono ((F _ kinH (nsH hm)).run callerA [] s₁ H ⟨[.ref a], []⟩ [.ref a] [.ref a] (fun v _ => v = .bl true) rfl room e0 (bd s₁ (.ref a)) (.cons rfl .nil) ⟨a, ns, rfl, hS, hl, fun _ => rfl⟩) fun r s' h => ?_
    obtain ⟨u, rfl, v, H', os, bare, un, hok', r', q⟩ := h
    obtain rfl : v = .bl true := q
    obtain rfl : u = Value.bool true := r'
    refine ⟨rfl, OldK.of_keep fun b o e => ?_, os, bare⟩
    rcases hO b with z | ⟨_, ob, ys, z⟩
    · exact un.keep b o e z (fun y => by cases y) (fun y => by cases y)
    · have z2 := un.frzs b ob _ z
      obtain ⟨e1, _⟩ := hok b _ z
      obtain ⟨e2, _⟩ := hok' b _ z2
      rw [e] at e1
      cases e1
      exact e2
  cases hk : K.lookup a with
  | some o =>
    have e := KX a o hk
    rw [ha] at e
    cases e
    refine main (fun _ => none) (fun _ => .inl rfl) (.inr ⟨_, vs.toArray, _, hk, rfl, rfl, rfl, ?_, by simpa using rv⟩) (fun b u z => nomatch z) fun z => absurd rfl z
    rw [List.size_toArray, hi.length]
    exact lz
  | none =>
    let o0 : Obj := { cls := .type "list", data := .seq vs.toArray }
    let H0 : Hp := fun b => if b = a then some (.frz o0 (.lst (ns.map V.int))) else none
    have h0 : H0 a = some (.frz o0 (.lst (ns.map V.int))) := if_pos rfl
    have h1 : ∀ b, b ≠ a → H0 b = none := fun b n => if_neg n
    refine main H0 (fun b => ?_) (.inl (.inr ⟨o0, h0⟩)) (fun b u z => ?_) fun _ => hk
    · by_cases n : b = a
      · subst n; exact .inr ⟨rfl, _, _, h0⟩
      · exact .inl (h1 b n)
    · by_cases n : b = a
      · subst n
        rw [h0] at z
        cases z
        exact ⟨ha, by rw [List.length_map]; exact lz, vs, _, rv, ha⟩
      · rw [h1 b n] at z
        cases z
theorem walkG {l : PySem.W.OpenLaw} {k : Nat} {q : Program} {loose : List Str} {XP : (Str → Option Value) → Heap → Prop} {YP : World → Heap → Prop} {d : DefRec} {K : Params → PySem.W.Frag} {x : Str}
    (hn : l.most = some 63) (hdf : d.params.defaults = []) (hr : Room k callerA) (hY : ∀ (w : World) (h : Heap), YP w h → (K w.params).In h)
    (F : ∀ (w : World) (mg : Str → Option Value) (fa : Addr) (h : Heap), (K w.params).In h → h.Ns mainGlobals mg → mg d.name = some (.ref fa) →
      ∃ fd : FuncData, (∀ (s : Shared) (u : Value), BindsTo s fd ⟨[u], []⟩ [(x, u)]) ∧ ∀ base : Heap, (K w.params).In base → base.Ns mainGlobals mg → FnG l.prog w (K w.params) mg base k fa fd [x] (spL (K w.params))) :
    PySem.W.WalkO q loose XP YP l.row.toRowW d [] (fun f vs => PySem.call f vs) := by
  refine Att.attach_call hn hdf fun w s0 s1 mg mb fa o pm cd doc a vs ns Gd Yh ho hd hcd hmg hobj hints hlen hgs => ?_
  have kx := hY w _ Yh
  obtain ⟨fd, bd, hF⟩ := F w mg fa _ kx Gd.T.g hmg
  exact lawG_call kx Gd.T.g Gd.T.b Gd.T.builtins Gd.T.nolimit hgs hobj hints hlen hr hF bd
end FD

set_option Elab.async false
set_option linter.all false
set_option maxRecDepth 100000
set_option maxHeartbeats 2000000
namespace FD
open PySem PySem.Spec PyProof.Rows L2

section
variable {K : PySem.W.Frag} {env : En} {ta tb tc te : TE} {t u : TS} {P : En → PyData → Prop} {O : Outs}
/-! ### tests of several parts -/
theorem eb_and {tt uu : TT} {P : En → Bool → Prop} (h : EvB K tt env fun e1 c => (c = true → EvB K uu e1 P) ∧ (c = false → P e1 false)) : EvB K (tAnd tt uu) env P := fun B σ G H Q I q =>
  h B σ G H _ I fun c G1 H1 e1 p1 x1 I1 => by
    cases c with
    | true => exact iteT (p1.1 rfl B σ G1 H1 Q I1 fun b G2 H2 e2 p2 x2 I2 => q b G2 H2 e2 p2 (x1.trans x2) I2)
    | false => exact iteF (q false G1 H1 e1 (p1.2 rfl) x1 I1)
theorem eb_or {tt uu : TT} {P : En → Bool → Prop} (h : EvB K tt env fun e1 c => (c = false → EvB K uu e1 P) ∧ (c = true → P e1 true)) : EvB K (tOr tt uu) env P := fun B σ G H Q I q =>
  h B σ G H _ I fun c G1 H1 e1 p1 x1 I1 => by
    cases c with
    | false => exact iteF (p1.1 rfl B σ G1 H1 Q I1 fun b G2 H2 e2 p2 x2 I2 => q b G2 H2 e2 p2 (x1.trans x2) I2)
    | true => exact iteT (q true G1 H1 e1 (p1.2 rfl) x1 I1)
theorem eb_not {tt : TT} {P : En → Bool → Prop} (h : EvB K tt env fun e1 c => P e1 (!c)) : EvB K (tNot tt) env P := fun B σ G H Q I q =>
  h B σ G H _ I fun c G1 H1 e1 p1 x1 I1 => q (!c) G1 H1 e1 p1 x1 I1
theorem eb_yes {P : En → Bool → Prop} (h : P env true) : EvB K tYes env P := fun B σ G H Q I q => q true G H env h (Ex.refl G) I
/-! ### the script -/
theorem ev_slen {i : Nat} {p : Addr} {ns : List Int} (hi : env[i]? = some (some (.script p ns))) (h : P env (.int ns.length)) : EvE K (tCB (rLen K) (tCons (tVar i) tNil)) env P := fun B σ G H Q I q => by
  obtain ⟨v, h1, rfl, g⟩ := I.sl i _ hi
  have g' : SqL K H p (ns.map V.int) := SqL.ex g I.exH
  refine ⟨_, h1, _, _, rfl, .inl ⟨_, g', rfl⟩, ?_⟩
  rw [List.length_map]
  exact q _ G H env _ h (Ex.refl G) I (.int _)
theorem atI_map {ns : List Int} {j : Int} {z : Int} (h : L2.atI ns j = some z) : L2.atI (ns.map V.int) j = some (.int z) := by
  unfold L2.atI at h ⊢
  rw [List.length_map]
  cases e : ixN ns.length j with
  | none => rw [e] at h; cases h
  | some m =>
    rw [e] at h
    have h' : ns[m]? = some z := h
    show (ns.map V.int)[m]? = _
    rw [List.getElem?_map, h']
    rfl
theorem ev_sat {i : Nat} {p : Addr} {ns : List Int} {tb : TE} (hi : env[i]? = some (some (.script p ns))) (h : EvE K tb env fun e1 d => ∃ j z, d = .int j ∧ L2.atI ns j = some z ∧ P e1 (.int z)) : EvE K (tOp (rIx K) (tVar i) tb) env P := fun B σ G H Q I q => by
  obtain ⟨v, h1, rfl, g⟩ := I.sl i _ hi
  refine ⟨_, h1, ?_⟩
  refine h B σ G H _ I fun y G1 H1 e1 d1 p1 x1 I1 r1 => ?_
  obtain ⟨j, z, rfl, hz, hp⟩ := p1
  cases r1
  exact .inl ⟨_, _, j, _, rfl, rfl, SqL.ex g (x1.trans I1.exH), atI_map hz, q _ G1 H1 e1 _ hp x1 I1 (.int _)⟩
/-- sum(script[:j]) -/
theorem ev_ssum {i : Nat} {p : Addr} {ns : List Int} {tb : TE} (hi : env[i]? = some (some (.script p ns))) (h : EvE K tb env fun e1 d => (∃ j, d = .int j) ∧ ∀ z, P e1 (.int z)) :
    EvE K (tCB (rSum K) (tCons (tSl (rSlice K) (tVar i) tNoPart (tPart tb)) tNil)) env P := fun B σ G H Q I q => by
  obtain ⟨v, h1, rfl, g⟩ := I.sl i _ hi
  refine ⟨_, h1, ?_⟩
  refine h B σ G H _ I fun y G1 H1 e1 d1 p1 x1 I1 r1 => ?_
  obtain ⟨⟨j, rfl⟩, hp⟩ := p1
  cases r1
  refine ⟨j, rfl, .inl ⟨_, _, rfl, SqL.ex g (x1.trans I1.exH), fun a na => ?_⟩⟩
  have n := I1.exH.fresh na
  have e : cutV (ns.map V.int) none (some j) = ((ns.drop (HT.sIx ns.length 0 none)).take (HT.sIx ns.length ns.length (some j) - HT.sIx ns.length 0 none)).map V.int := by
    unfold cutV
    rw [List.length_map, List.map_take, List.map_drop]
  rw [e]
  exact ⟨a, _, rfl, SqL.of upd_same, q _ _ _ e1 _ (hp _) (x1.trans (Ex.new n)) (I1.new na) (.int _)⟩
/-! ### dicts with text keys -/
def lkD (x : Str) : List (PyData × PyData) → Option PyData
  | [] => none
  | (k, d) :: r => match k with
    | .str y => if y = x then some d else lkD x r
    | _ => lkD x r
theorem DdKv.lk {G : Hp} {x : Str} : ∀ {kvs : List (Key × V)} {ds : List (PyData × PyData)}, DdKv G kvs ds → (valV kvs (.inr x) = none ∧ lkD x ds = none) ∨ ∃ v d, valV kvs (.inr x) = some v ∧ lkD x ds = some d ∧ Dd G v d
  | _, _, .nil => .inl ⟨rfl, rfl⟩
  | _, _, .cons (k := k) (v := v) (vs := vs) (d := d) (ds := ds) r t => by
    have ih := DdKv.lk (x := x) t
    cases k with
    | inl i =>
      have e : valV ((Sum.inl i, v) :: vs) (.inr x) = valV vs (.inr x) := valV_neg (fun z => nomatch z)
      rw [e]
      exact ih
    | inr y =>
      by_cases z : y = x
      · subst z
        refine .inr ⟨v, d, valV_pos rfl, ?_, r⟩
        show (if y = y then some d else _) = _
        rw [if_pos rfl]
      · have e : valV ((Sum.inr y, v) :: vs) (.inr x) = valV vs (.inr x) := valV_neg (fun q => z (Sum.inr.inj q))
        have e2 : lkD x ((kD (.inr y), d) :: ds) = lkD x ds := by
          show (if y = x then some d else _) = _
          rw [if_neg z]
        rw [e, e2]
        exact ih
/-- the pairs behind a store: in its place, or at the end -/
def isK (y : Str) : PyData → Bool
  | .str z => decide (z = y)
  | _ => false
def putD (y : Str) (d : PyData) (ds : List (PyData × PyData)) : List (PyData × PyData) :=
  if (ds.any fun p => isK y p.1) = true then ds.map (fun p => if isK y p.1 = true then (p.1, d) else p) else ds ++ [(.str y, d)]
theorem isK_kD (y : Str) (k : Key) : isK y (kD k) = decide (k = .inr y) := by
  cases k with
  | inl i => exact (decide_eq_false (fun q => nomatch q)).symm
  | inr z =>
    show decide (z = y) = _
    by_cases q : z = y
    · subst q; simp
    · rw [decide_eq_false q, decide_eq_false (fun e => q (Sum.inr.inj e))]
theorem DdKv.putD {G : Hp} {y : Str} {v : V} {d : PyData} (r : Dd G v d) {kvs : List (Key × V)} {ds : List (PyData × PyData)} (h : DdKv G kvs ds) : DdKv G (putK kvs (.inr y) v) (putD y d ds) := by
  have hm : ∀ {kvs : List (Key × V)} {ds : List (PyData × PyData)}, DdKv G kvs ds → DdKv G (kvs.map fun kv => if kv.1 = Sum.inr y then (kv.1, v) else kv) (ds.map (fun p => if isK y p.1 = true then (p.1, d) else p)) := by
    intro kvs
    induction kvs with
    | nil => intro ds h; cases h; exact .nil
    | cons q r' ih =>
      intro ds h
      cases h with
      | cons h1 h2 =>
        rename_i k' v' d' ds'
        rw [List.map_cons, List.map_cons]
        show DdKv G ((if k' = Sum.inr y then (k', v) else (k', v')) :: _) ((if isK y (kD k') = true then (kD k', d) else (kD k', d')) :: _)
        rw [isK_kD]
        by_cases z : k' = Sum.inr y
        · rw [if_pos z, if_pos (decide_eq_true z)]; exact .cons r (ih h2)
        · rw [if_neg z, if_neg (by rw [decide_eq_false z]; exact Bool.false_ne_true)]; exact .cons h1 (ih h2)
  have ha : ∀ {kvs : List (Key × V)} {ds : List (PyData × PyData)}, DdKv G kvs ds → DdKv G (kvs ++ [(.inr y, v)]) (ds ++ [(kD (.inr y), d)]) := by
    intro kvs
    induction kvs with
    | nil => intro ds h; cases h; exact .cons r .nil
    | cons q r' ih =>
      intro ds h
      cases h with
      | cons h1 h2 => exact .cons h1 (ih h2)
  have hy : ∀ {kvs : List (Key × V)} {ds : List (PyData × PyData)}, DdKv G kvs ds → (ds.any fun p => isK y p.1) = kvs.any fun kv => decide (kv.1 = Sum.inr y) := by
    intro kvs
    induction kvs with
    | nil => intro ds h; cases h; rfl
    | cons q r' ih =>
      intro ds h
      cases h with
      | cons h1 h2 => rw [List.any_cons, List.any_cons, ih h2, isK_kD]
  unfold putK FD.putD
  rw [hy h]
  by_cases z : (kvs.any fun kv => decide (kv.1 = Sum.inr y)) = true
  · rw [if_pos z, if_pos z]; exact hm h
  · rw [if_neg z, if_neg z]; exact ha h
theorem DdKv.length {G : Hp} : ∀ {kvs : List (Key × V)} {ds : List (PyData × PyData)}, DdKv G kvs ds → kvs.length = ds.length
  | _, _, .nil => rfl
  | _, _, .cons _ t => by rw [List.length_cons, List.length_cons, DdKv.length t]
theorem putD_length (y : Str) (d : PyData) (ds : List (PyData × PyData)) : (putD y d ds).length ≤ ds.length + 1 := by
  unfold putD
  split
  · simp
  · simp
theorem lkD_app (x y : Str) (d : PyData) : ∀ ds : List (PyData × PyData), (ds.any fun p => isK y p.1) = false → lkD x (ds ++ [(.str y, d)]) = if x = y then some d else lkD x ds
  | [], _ => by
    show (if y = x then some d else none) = _
    by_cases z : x = y
    · rw [if_pos z, if_pos z.symm]
    · rw [if_neg z, if_neg (fun e => z e.symm)]; rfl
  | (k, f) :: r, h => by
    rw [List.any_cons, Bool.or_eq_false_iff] at h
    have ih := lkD_app x y d r h.2
    cases k with
    | str z =>
      have h1 : decide (z = y) = false := h.1
      have zy : z ≠ y := of_decide_eq_false h1
      show (if z = x then some f else lkD x (r ++ [(.str y, d)])) = if x = y then some d else (if z = x then some f else lkD x r)
      rw [ih]
      by_cases q : z = x
      · subst q; rw [if_pos rfl, if_neg zy, if_pos rfl]
      · rw [if_neg q, if_neg q]
    | _ => exact ih
theorem lkD_map (x y : Str) (d : PyData) : ∀ ds : List (PyData × PyData), (ds.any fun p => isK y p.1) = true → lkD x (ds.map (fun p => if isK y p.1 = true then (p.1, d) else p)) = if x = y then some d else lkD x ds
  | [], h => by cases h
  | (k, f) :: r, h => by
    by_cases hr : (r.any fun p => isK y p.1) = true
    · have ih := lkD_map x y d r hr
      rw [List.map_cons]
      cases k with
      | str z =>
        show lkD x ((if decide (z = y) = true then (.str z, d) else (.str z, f)) :: _) = if x = y then some d else (if z = x then some f else lkD x r)
        by_cases q : z = y
        · subst q
          rw [if_pos (decide_eq_true rfl)]
          show (if z = x then some d else lkD x _) = _
          rw [ih]
          by_cases e : z = x
          · subst e; rw [if_pos rfl, if_pos rfl]
          · have e' : ¬ x = z := fun a => e a.symm
            simp only [if_neg e, if_neg e']
        · rw [if_neg (by rw [decide_eq_false q]; exact Bool.false_ne_true)]
          show (if z = x then some f else lkD x _) = _
          rw [ih]
          by_cases e : z = x
          · subst e; rw [if_pos rfl, if_neg q, if_pos rfl]
          · rw [if_neg e, if_neg e]
      | _ => exact ih
    · have hr' : (r.any fun p => isK y p.1) = false := by simpa using hr
      have hid : (r.map (fun p => if isK y p.1 = true then (p.1, d) else p)) = r := by
        rw [List.map_congr_left (g := id) fun p hp => ?_, List.map_id]
        have := List.any_eq_false.mp hr' p hp
        rw [if_neg this]; rfl
      rw [List.any_cons, hr', Bool.or_false] at h
      rw [List.map_cons, hid]
      cases k with
      | str z =>
        have zy : z = y := of_decide_eq_true h
        subst zy
        show lkD x ((if decide (z = z) = true then (.str z, d) else (.str z, f)) :: r) = if x = z then some d else (if z = x then some f else lkD x r)
        rw [if_pos (decide_eq_true rfl)]
        show (if z = x then some d else lkD x r) = _
        by_cases e : z = x
        · subst e; rw [if_pos rfl, if_pos rfl]
        · rw [if_neg e, if_neg (fun a => e a.symm), if_neg e]
      | _ => cases h
theorem lkD_put (x y : Str) (d : PyData) (ds : List (PyData × PyData)) : lkD x (putD y d ds) = if x = y then some d else lkD x ds := by
  unfold putD
  by_cases z : (ds.any fun p => isK y p.1) = true
  · rw [if_pos z]; exact lkD_map x y d ds z
  · rw [if_neg z]; exact lkD_app x y d ds (by simpa using z)
/-- not in a dict; an item of it -/
theorem ev_dni (h : EvE K ta env fun e1 d => EvE K tb e1 fun e2 dd => ∃ x ds, d = .str x ∧ dd = .dict ds ∧ P e2 (.bool (!(lkD x ds).isSome))) : EvE K (tDNotIn ta tb) env P := fun B σ G H Q I q =>
  h B σ G H _ I fun y G1 H1 e1 d1 p1 x1 I1 r1 => p1 B σ G1 H1 _ I1 fun z G2 H2 e2 d2 p2 x2 I2 r2 => by
    obtain ⟨x, ds, rfl, rfl, hp⟩ := p2
    cases r1
    cases r2 with
    | dct h1 h2 =>
      refine ⟨_, _, rfl, DGet.k (k := .inr x) (I2.exH _ _ h1), ?_⟩
      rename_i a0 kvs0
      have e : (valV kvs0 (Sum.inr x)).isSome = (lkD x ds).isSome := by
        rcases h2.lk (x := x) with ⟨a, b⟩ | ⟨v, d, a, b, _⟩
        · rw [a, b]; rfl
        · rw [a, b]; rfl
      rw [e]
      exact q _ G2 H2 e2 _ hp (x1.trans x2) I2 (.bl _)
theorem ev_dget (h : EvE K ta env fun e1 dd => EvE K tb e1 fun e2 d => ∃ x ds f, d = .str x ∧ dd = .dict ds ∧ lkD x ds = some f ∧ P e2 f) : EvE K (tDGet ta tb) env P := fun B σ G H Q I q =>
  h B σ G H _ I fun y G1 H1 e1 d1 p1 x1 I1 r1 => p1 B σ G1 H1 _ I1 fun z G2 H2 e2 d2 p2 x2 I2 r2 => by
    obtain ⟨x, ds, f, rfl, rfl, hf, hp⟩ := p2
    cases r2
    have r1' := r1.ex x2
    cases r1' with
    | dct h1 h2 =>
      rcases h2.lk (x := x) with ⟨a, b⟩ | ⟨v, d, a, b, rv⟩
      · rw [hf] at b; cases b
      · rw [hf] at b; cases b
        refine ⟨_, v, rfl, ?_, q v G2 H2 e2 _ hp (x1.trans x2) I2 rv⟩
        rw [← a]
        exact DGet.k (k := .inr x) (I2.exH _ _ h1)
/-- a dict of one's own -/
theorem es_odc {i : Nat} {x : Str} {j : Int} (h : ∀ p : Addr, O.nx (env.set i (some (.odc p [(.str x, .int j)])))) : EvS K (tAsg (tDisp [(tC (.str x), tC (.int j))]) (gName i)) env O := fun B σ G H D I a b c d f => by
  intro p np
  show (upd H p (.dK [])) p = _ ∧ _
  refine ⟨upd_same, [(.inr x, .int j)], rfl, Nat.le_of_ble_eq_true rfl, ?_⟩
  rw [upd_upd]
  have n := I.exH.fresh np
  have I2 : EnvOk K B G (upd H p (.dK (mergeK [] [(.inr x, .int j)]))) σ env := by
    refine ⟨I.exH.trans (Ex.new np), I.exG, fun q u hq hm => Ex.new np _ _ (I.keep q u hq hm), I.nog, fun q u hq => ?_, I.mus, I.len, fun j s e => ?_, I.mine, I.inj⟩
    · obtain ⟨w, hw⟩ := I.there q u hq
      exact ⟨w, Ex.new np _ _ hw⟩
    · obtain ⟨v, h1, h2⟩ := I.sl j s e
      exact ⟨v, h1, h2.ex (Ex.refl _) (fun q hq => (h2.has hq).2.1) fun q u hq hu => Ex.new np _ _ hu⟩
  have bp : B.H p = none := by
    cases z : B.H p with
    | none => rfl
    | some o => obtain ⟨u, hu⟩ := I.there p o z; rw [np] at hu; cases hu
  refine a _ G _ _ (h p) (Ex.refl G) (I2.setO (s := .odc p _) ⟨rfl, n, _, upd_same, .cons (k := .inr x) (.int j) .nil⟩ rfl bp fun j t e z => ?_)
  obtain ⟨v, _, h2⟩ := I.sl j t e
  obtain ⟨_, _, o, ho⟩ := h2.has z
  rw [np] at ho; cases ho
theorem es_dput {i : Nat} {p : Addr} {ds0 : List (PyData × PyData)} {tv ty : TE} (h0 : env[i]? = some (some (.odc p ds0)))
    (h : EvE K tv env fun e1 d => e1 = env ∧ EvE K ty env fun e2 k => e2 = env ∧ ∃ y, k = .str y ∧ ds0.length < 100000 ∧ O.nx (env.set i (some (.odc p (putD y d ds0))))) : EvS K (sDPut (tVar i) ty tv) env O := fun B σ G H D I a b c d f => by
  refine h B σ G H _ I fun v G1 H1 e1 d1 p1 x1 I1 r1 => ?_
  obtain ⟨rfl, p1⟩ := p1
  obtain ⟨v0, hv0, rfl, _⟩ := I1.sl i _ h0
  refine ⟨_, hv0, ?_⟩
  refine p1 B σ G1 H1 _ I1 fun yv G2 H2 e2 k p2 x2 I2 r2 => ?_
  obtain ⟨rfl, y, rfl, hl, hn⟩ := p2
  cases r2
  obtain ⟨v1, hv1, rfl, g1, kvs, hk, rk⟩ := I2.sl i _ h0
  refine ⟨p, _, rfl, DPut.k (k := .inr y) hk (by rw [rk.length]; exact Nat.lt_of_lt_of_le hl (by decide)), ?_⟩
  exact a σ G2 _ _ hn (x1.trans x2) (I2.put h0 rfl rfl rfl ⟨rfl, g1, _, upd_same, rk.putD (r1.ex x2)⟩)
/-- a dict of one's own, read: from now on it stays -/
theorem ev_odc {i : Nat} {p : Addr} {ds : List (PyData × PyData)} (h : env[i]? = some (some (.odc p ds))) (q : P (env.set i (some (.dat (.dict ds)))) (.dict ds)) : EvE K (tVar i) env P := fun B σ G H Q I k => by
  obtain ⟨v, hv, rfl, g, xs, hx, r⟩ := I.sl i _ h
  have bp : B.H p = none := by
    rcases I.mine i _ p h rfl with m | m
    · exact m
    · cases m.2
  have I2 := (I.forget i).freeze hx g (fun j s e a => by
    by_cases z : i = j
    · subst z
      by_cases q : i < env.length
      · rw [List.getElem?_set_self q] at e; cases e
      · rw [List.getElem?_eq_none (by omega)] at h; cases h
    · rw [List.getElem?_set_ne z] at e; exact z (I.inj _ _ _ _ _ h e rfl a)) bp
  have rd : Dd (upd G p (.dK xs)) (.ref p) (.dict ds) := .dct upd_same (r.ex (Ex.new g))
  have I3 := I2.tell hv rd
  rw [List.set_set] at I3
  exact ⟨_, hv, k _ _ H _ _ q (Ex.new g) I3 rd⟩
end
end FD

set_option Elab.async false
set_option linter.all false
set_option maxRecDepth 100000
set_option maxHeartbeats 2000000
namespace FD
open PySem PySem.Spec PyProof.Rows L2
theorem bInt : bootBuiltins "int" = some (.type "int") := by decide +kernel
theorem bBool : bootBuiltins "bool" = some (.type "bool") := by decide +kernel
theorem bStr : bootBuiltins "str" = some (.type "str") := by decide +kernel
theorem bTuple : bootBuiltins "tuple" = some (.type "tuple") := by decide +kernel
theorem bList : bootBuiltins "list" = some (.type "list") := by decide +kernel
theorem bLen : bootBuiltins "len" = some (.builtin "len") := by decide +kernel
theorem bAll : bootBuiltins "all" = some (.builtin "all") := by decide +kernel
theorem bRepr : bootBuiltins "repr" = some (.builtin "repr") := by decide +kernel
theorem bMax : bootBuiltins "max" = some (.builtin "max") := by decide +kernel
theorem bMin : bootBuiltins "min" = some (.builtin "min") := by decide +kernel
theorem bSum : bootBuiltins "sum" = some (.builtin "sum") := by decide +kernel
/-- the built-ins' names are the built-ins' -/
structure Bi (mg : Str → Option Value) : Prop where
  len : mg "len" = none
  isi : mg "isinstance" = none
  int : mg "int" = none
  bool : mg "bool" = none
  str : mg "str" = none
  tuple : mg "tuple" = none
  list : mg "list" = none
  all : mg "all" = none
  repr : mg "repr" = none
  sum : mg "sum" = none
  min : mg "min" = none
  max : mg "max" = none
  range : mg "range" = none
section
variable {prog : Program} {w : World} {A : Around} {E : Value → Shared → Prop} {s : Shared}
theorem back_places (n : Nat) : Builtin.Slice.slicePlaces ((n : Int) - 1) (-1) (-1) = n := by
  unfold Builtin.Slice.slicePlaces
  rw [if_neg (by decide)]
  by_cases z : n = 0
  · subst z; decide
  · rw [if_pos (by omega)]
    have : ((n : Int) - 1 - -1 - 1) / (- -1) = (n : Int) - 1 := by
      rw [show ((n : Int) - 1 - -1 - 1) = (n : Int) - 1 by omega, show (- -1 : Int) = 1 by decide, Int.ediv_one]
    rw [this]
    omega
theorem back_pick (xs : Array Value) : ((List.range xs.size).filterMap fun (k : Nat) => xs[((xs.size : Int) - 1 + (k : Int) * (-1)).toNat]?).toArray = xs.toList.reverse.toArray := by
  have go := HT.pick_gen xs.toList.reverse.toArray 0 xs.size
  rw [show (xs.toList.reverse.toArray.toList.drop 0).take xs.size = xs.toList.reverse from by rw [List.drop_zero]; exact List.take_of_length_le (by rw [List.length_reverse, Array.length_toList]; exact Nat.le_refl _)] at go
  rw [← go]
  congr 1
  have same : ∀ (l : List Nat) (f g : Nat → Option Value), (∀ k, k ∈ l → f k = g k) → l.filterMap f = l.filterMap g := by
    intro l f g
    induction l with
    | nil => intro _; rfl
    | cons k l ih =>
      intro h
      rw [List.filterMap_cons, List.filterMap_cons, h k List.mem_cons_self, ih fun j hj => h j (List.mem_cons_of_mem _ hj)]
  refine same _ _ _ fun k hk => ?_
  have hk := List.mem_range.mp hk
  rw [show ((((0 : Nat) : Int) + (k : Int) * 1).toNat) = k by omega, show ((xs.size : Int) - 1 + (k : Int) * (-1)).toNat = xs.size - 1 - k by omega]
  have e1 : xs[xs.size - 1 - k]? = xs.toList[xs.size - 1 - k]? := by simp
  have e2 : xs.toList.reverse.toArray[k]? = xs.toList.reverse[k]? := by simp
  rw [e1, e2, List.getElem?_reverse (by rw [Array.length_toList]; exact hk), Array.length_toList]
theorem back_run {sl : Addr} {vl vu vk : Value} {n : Nat} {Q : Int × Int × Nat → Shared → Prop} (at_ : s.heap.IsSliceOf sl vl vu vk) (a : IsPart vl none) (b : IsPart vu none) (c : IsPart vk (some (-1)))
    (h : Q ((n : Int) - 1, -1, n) s) : wpAny (model prog w) A (Builtin.Slice.sliceApplied (.ref sl) (pure (n : Int))) Q E s := by
  cases a; cases b
  cases c with
  | int i u =>
  obtain ⟨ob, get, cl, dat⟩ := at_
  unfold Builtin.Slice.sliceApplied Builtin.Slice.sliceFields
  refine wpAny_bind (wpAny_bind (wpAny_field get dat (x := .none) rfl (wpAny_bind (wpAny_field get dat (x := .none) rfl (wpAny_bind (wpAny_field get dat (x := .int (-1) u) rfl (wpAny_pure ?_)))))))
  refine wpAny_bind (slicePart_int ?_)
  show wpAny _ _ (ite (((-1 : Int) == 0) = true) _ _) _ _ s
  rw [if_neg (by decide)]
  refine wpAny_bind (slicePart_none ?_)
  refine wpAny_bind (slicePart_none ?_)
  refine wpAny_bind (wpAny_pure ?_)
  show wpAny _ _ (pure ((n : Int) - 1, (-1 : Int), Builtin.Slice.slicePlaces ((n : Int) - 1) (-1) (-1))) _ _ s
  rw [back_places]
  exact wpAny_pure h
theorem back_get {t sl : Addr} {xs : Array Value} {vl vu vk : Value} {Q : Value → Shared → Prop} (tp : IsTup s.heap t xs) (at_ : s.heap.IsSliceOf sl vl vu vk) (a : IsPart vl none) (b : IsPart vu none) (c : IsPart vk (some (-1)))
    (h : Q (.ref s.heap.objs.size) { s with heap := s.heap.push { cls := .type "tuple", data := .seq xs.toList.reverse.toArray } }) (small : xs.size ≤ sizeLine) :
    wpAny (model prog w) A (getItem (.ref t) (.ref sl)) Q E s := by
  have fits : sizeOk (.seq xs.toList.reverse.toArray) := by
    show xs.toList.reverse.toArray.size ≤ sizeLine
    rw [List.size_toArray, List.length_reverse, Array.length_toList]
    exact small
  have isSl : s.TypeIs (.ref sl) "slice" := by
    obtain ⟨ob, get, cl, _⟩ := at_
    exact ⟨ob, get, cl⟩
  unfold getItem
  try with_reducible refine wpAny_holding ?_
  first | refine wpAny_bind (wpAny_pure ?_) | skip
  refine wpAny_bind (wpAny_sequenceKey tp.typeIs (by decide) ?_)
  refine wpAny_bind (wpAny_callSpecial?_slot (name := Str.ofString "__getitem__") tp.typeIs slot_tuple_getitem
    (wpAny_call_entry slot_tuple_getitem tp.typeIs entry_tuple_getitem ?_ (args_tuple_getitem _ _)))
  show wpAny _ _ (bind (Builtin.Tuple.tupleItemsOf (.ref t)) _) _ _ s
  refine wpAny_bind (tupleItemsOf_ tp ?_)
  refine wpAny_bind (wpAny_typeOf isSl ?_)
  rw [if_pos (by decide)]
  refine wpAny_bind (back_run at_ a b c ?_)
  have nw : ¬ ((((xs.size : Int) - 1) == 0 && (-1 : Int) == 1 && xs.size == xs.size) = true) := by
    rw [show ((-1 : Int) == 1) = false by decide, Bool.and_false, Bool.false_and]
    decide
  show wpAny _ _ (ite ((((xs.size : Int) - 1) == 0 && (-1 : Int) == 1 && xs.size == xs.size) = true) _ _) _ _ s
  rw [if_neg nw, back_pick]
  first
    | exact wpAny_bind (m := Builtin.Tuple.tupleExact _) (wpAny_newObj_type (wpAny_pure ⟨_, rfl, wpAny_pure h⟩) fits)
    | exact wpAny_bind (m := Builtin.Tuple.tupleExact _) (wpAny_newObj_type (wpAny_bind (wpAny_pure (wpAny_pure ⟨_, rfl, wpAny_pure h⟩))) fits)
    | exact wpAny_bind (wpAny_bind (m := Builtin.Tuple.tupleExact _) (wpAny_newObj_type (wpAny_pure (wpAny_pure ⟨_, rfl, wpAny_pure h⟩)) fits))
    | exact wpAny_bind (wpAny_bind (m := Builtin.Tuple.tupleExact _) (wpAny_newObj_type (wpAny_pure ⟨_, rfl, wpAny_pure h⟩) fits))
end
section
variable {X : Cx}
/-- isinstance(e, n) -/
theorem pe_isi {n : String} {nm : Str} {e : Expr} {te : TE} {p p2 pos : Pos} (b : Bi X.mg) (hm : X.mg nm = none) (hv : bootBuiltins nm = some (.type n)) (hg : Gl X "isinstance") (hg2 : Gl X nm) (he : PE X e te)
    (h1 : starEach [e, .Name nm p2] X.env = (false, eval e X.env) :: starEach [.Name nm p2] X.env := by rfl) (h2 : starEach [.Name nm p2] X.env = (false, eval (.Name nm p2) X.env) :: starEach [] X.env := by rfl)
    (hpl : (backTo pos (starEach [.Name nm p2] X.env)).any (·.1) = false := by rfl) (hn : nm ≠ "__name__" := by decide) (hd : (nm == ("__debug__" : Str)) = false := by decide) :
    PE X (.Call (.Name "isinstance" p) [e, .Name nm p2] [] pos) (tCB (rIsi X.K) (tCons te (tCons (tC (.ty n)) tNil))) :=
  pe_callB (x := "isinstance") call_isi hg b.isi (by decide +kernel) (pa_cons he (pa_cons (pe_bltn (v := .ty n) hg2 hm hv rfl hn hd) pa_nil h2) h1) (by decide) (by decide) h1 hpl
theorem cl_len : CallR X (.builtin "len") (rLen X.K) := call_len
theorem cl_int : CallR X (.type "int") rInt := call_int1
theorem cl_max (hc : X.calm = true) : CallR X (.builtin "max") rMax2 := call_max2 hc
theorem cl_min (hc : X.calm = true) : CallR X (.builtin "min") rMin2 := call_min2 hc
theorem cl_tuple : CallR X (.type "tuple") (rTuple X.K) := call_tuple_of
theorem op_over : OpR X (binaryOp .FloorDiv) rOver := op_fdivN
theorem op_rest : OpR X (binaryOp .Mod) rMod := op_modN
def rInStr : R2 := fun x y H Q => ∃ i j, x = .str i ∧ y = .str j ∧ Q (.bl (!(Builtin.Str.occurrences j i 0 j.length 1).isEmpty)) H
theorem op_inStr : OpR X (compareOp .In) rInStr := op_in_str
def rLt : R2 := rI0 fun i j => .bl (decide (i < j))
def rGt : R2 := rI0 fun i j => .bl (decide (j < i))
def rGe : R2 := fun x y H Q => rI0 (fun i j => .bl (decide (j ≤ i))) x y H Q ∨ ∃ i j : Str, x = .str i ∧ y = .str j ∧ Q (.bl (!decide (i.cps.toList < j.cps.toList))) H
def rMinus : R2 := rI0 fun i j => .int (i - j)
def rPow : R2 := rI CPow fun i j => .int (i ^ j.toNat)
def rNeg : V → Hp → VK → Prop := rU fun i => .int (-i)
theorem op_lt' : OpR X (compareOp .Lt) rLt := op_lt
theorem op_gt' : OpR X (compareOp .Gt) rGt := op_gt
theorem op_ge' : OpR X (compareOp .GtE) rGe := op_ge.or op_ge_str
theorem op_minus : OpR X (binaryOp .Sub) rMinus := op_sub
theorem op_power : OpR X (binaryOp .Pow) rPow := op_pow
theorem un_minus : UnR X (unaryOp .USub) rNeg := un_neg
theorem pe_v {N : List Str} {i : Nat} {x : Str} {pos : Pos} (hN : N[i]? = some x) (hX : X.N = N) (hv : Vis X.env.scope x) (hd : (x == ("__debug__" : Str)) = false) (hc : (x == ("__classdict__" : Str)) = false) : PE X (.Name x pos) (tVar i) := pe_var (by rw [hX]; exact hN) hv hd hc
theorem pg_v {N : List Str} {i : Nat} {x : Str} {pos : Pos} (hN : N[i]? = some x) (nd : N.Nodup) (hX : X.N = N) (hx : Loc X.env.scope x) (hf : X.fn x = true ∨ X.env.scope.names.lookup x = some .local) : PG X (.Name x pos) (gName i) := pg_name (by rw [hX]; exact nd) (by rw [hX]; exact hN) hx hf
theorem pe_cl {P : Program} {w : World} {K : PySem.W.Frag} {mg : Str → Option Value} {base : Heap} {k m : Nat} {ps : List Str} {sp : Sp} {x : Str} {p pos : Pos} {e : Expr} {es : List Expr} {t : TA} (C : Cal P w K mg base k x ps sp) (h1 : X.prog = P) (h2 : X.w = w) (h3 : X.K = K) (h4 : X.mg = mg) (h5 : X.base = base)
    (hg : X.A.guards = some []) (hr : Room m X.A) (hk : k ≤ m) (hx : Gl X x) (ha : PA X (e :: es) t) (hdb : (x == ("__debug__" : Str)) = false)
    (he : starEach (e :: es) X.env = (false, eval e X.env) :: starEach es X.env) (hpl : (backTo pos (starEach es X.env)).any (·.1) = false) :
    PE X (.Call (.Name x p) (e :: es) [] pos) (tCB (callOf sp) t) := by
  subst h1 h2 h3 h4 h5
  exact pe_cal C hg (hr.mono hk) hx ha hdb he hpl
theorem pe_cl0 {P : Program} {w : World} {K : PySem.W.Frag} {mg : Str → Option Value} {base : Heap} {k m : Nat} {ps : List Str} {sp : Sp} {x : Str} {p pos : Pos} (C : Cal P w K mg base k x ps sp) (h1 : X.prog = P) (h2 : X.w = w) (h3 : X.K = K) (h4 : X.mg = mg) (h5 : X.base = base)
    (hg : X.A.guards = some []) (hr : Room m X.A) (hk : k ≤ m) (hx : Gl X x) (hdb : (x == ("__debug__" : Str)) = false) : PE X (.Call (.Name x p) [] [] pos) (tCB (callOf sp) tNil) := by
  subst h1 h2 h3 h4 h5
  exact pe_cal0 C hg (hr.mono hk) hx hdb
/-- the written part of a def's context -/
theorem cxK {CX : CXT} {P : Program} {w : World} {K : PySem.W.Frag} {mg : Str → Option Value} {base : Heap} {N : List Str} {q : Str} {sc : Scope} {f : Addr} {cd : Value} {A : Around} {outer : List PySem.Env} {s : Shared} {H : Hp} {E : XK} : (cxOf CX P w K mg base N q sc f cd A outer s H E).nox.K = K := rfl
theorem blkK {s : Shared} {H : Hp} {sc : Scope} {e : PySem.Env} {fp : List Addr} : (X.blk s H sc e fp).K = X.K := rfl
/-- [elt for x in iter if ..] -/
theorem pe_lc1 {i : Nat} {x : Str} {px : Pos} {elt iter : Expr} {ifs : List Expr} {scope : Scope} {pos : Pos} {wi : TI} {tt : TT} {te : TE} (hc : X.calm = true) (hN : X.N.Nodup)
    (hg : ∀ (s : Shared) (H : Hp) (C : Addr) (cl : List (Str × Addr)) (fp : List Addr), PG (X.blk s H scope (compEnvC scope cl C X.env) fp) (.Name x px) (gName i))
    (ok : blkC X.N X.env.scope scope [(x, i)] = true) (hi : PI X (.Name x px) iter wi)
    (ht : ∀ (s : Shared) (H : Hp) (C : Addr) (cl : List (Str × Addr)) (fp : List Addr), PTs (X.blk s H scope (compEnvC scope cl C X.env) fp) ifs tt)
    (he : ∀ (s : Shared) (H : Hp) (C : Addr) (cl : List (Str × Addr)) (fp : List Addr), PE (X.blk s H scope (compEnvC scope cl C X.env) fp) elt te)
    (hs : ∀ z, foldedSetIterable iter X.env z = pure z := by intro _; rfl) :
    PE X (.ListComp elt [⟨.Name x px, iter, ifs, 0⟩] scope pos) (tLc wi (gName i) tt te [i]) :=
  pe_lc (own := [(x, i)]) (g := gName i) hc hN hi (blkOk_by ok) hg ht he hs
/-- t[::-1] of a tuple -/
def tRevT (K : PySem.W.Frag) (te : TE) : TE := fun σ H Q => te σ H fun x H1 => ∃ a xs, x = .ref a ∧ SqT K H1 a xs ∧ ∀ p, H1 p = none → Q (.ref p) (upd H1 p (.tup xs.reverse))
theorem pe_revT {e : Expr} {te : TE} {k : Nat} {p1 p2 p3 pos : Pos} (he : PE X e te) : PE X (.Subscript e (.Slice none none (some (.UnaryOp .USub (.Constant (.int 1) k p1) p2)) p3) pos) (tRevT X.K te) := by
  have step : PO X (some (.UnaryOp .USub (.Constant (.int 1) k p1) p2)) (tPart (tUn (rU fun i => .int (-i)) (tC (.int 1)))) := po_some (pe_un un_neg pe_int)
  refine ⟨fun pins s σ H Q I h => Subscript_ (thn (he.run pins s σ H _ I h) fun v s1 ⟨x, H1, I1, r1, q1⟩ => ?_)⟩
  obtain ⟨a, xs, ex, hx, q⟩ := q1
  subst ex
  cases r1
  refine wpAny_Slice (thn (po_none.run pins s1 σ H1 (fun o H2 => o = none ∧ H2 = H1) I1 ⟨rfl, rfl⟩) fun vl s2 ⟨l, H2, I2, pl, el, e2⟩ => thn (po_none.run pins s2 σ H2 (fun o H3 => o = none ∧ H3 = H2) I2 ⟨rfl, rfl⟩) fun vu s3 ⟨u, H3, I3, pu, eu, e3⟩ =>
    thn (step.run pins s3 σ H3 (fun o H4 => o = some (-1) ∧ H4 = H3) I3 ⟨1, rfl, -1, rfl, rfl, rfl⟩) fun vs s4 ⟨o, H4, I4, ps, eo, e4⟩ => ?_)
  subst el e2 eu e3 eo e4
  have I5 : Inv X pins σ H4 { s4 with heap := s4.heap.push { cls := .type "slice", data := .fields #[vl, vu, vs] } } := I4.kept (t' := s4.toks) fun b ob g => Heap.get?_push_of_some _ g
  obtain ⟨its, r, ht, hz⟩ := I5.tuple hx
  have len := r.length
  show wpAny (model X.prog X.w) X.A (subscriptTail e (.Slice none none (some (.UnaryOp .USub (.Constant (.int 1) k p1) p2)) p3) (.ref a) (.ref s4.heap.objs.size)) (EP X pins σ Q) X.xe { s4 with heap := s4.heap.push { cls := .type "slice", data := .fields #[vl, vu, vs] } }
  refine tail_any (ops := [.ref a, .ref s4.heap.objs.size]) ht.typeIs slot_tuple_getitem.lookup ?_ (by with_unfolding_all rfl)
  refine back_get ht (Heap.IsSliceOf.new _ vl vu vs) pl pu ps ?_ (by rw [List.size_toArray, ← len]; omega)
  refine ⟨.ref _, _, I5.laid (t' := s4.toks) (o := .tup xs.reverse) (fun b ob g => Heap.get?_push_of_some _ g) (Nat.le_refl _) ?_, rfl, q _ (I5.hok.fresh (Nat.le_refl _))⟩
  refine ⟨by rw [List.length_reverse]; exact hz, its.reverse, r.reverse, ?_⟩
  exact IsTup.new _ _
end
section
variable {K : PySem.W.Frag} {env : En} {te : TE} {P : En → PyData → Prop}
theorem ev_revT (h : EvE K te env fun e1 d => ∃ ds, d = .tuple ds ∧ P e1 (.tuple ds.reverse)) : EvE K (tRevT K te) env P := fun B σ G H Q I q =>
  h B σ G H _ I fun x G1 H1 e1 d1 p1 x1 I1 r1 => by
    obtain ⟨ds, rfl, hp⟩ := p1
    cases r1 with
    | tup h1 h2 =>
      refine ⟨_, _, rfl, SqT.of (I1.exH _ _ h1), fun p np => ?_⟩
      have n := I1.exH.fresh np
      exact q _ _ _ e1 _ hp (x1.trans (Ex.new n)) (I1.new np) (.tup upd_same (h2.reverse.ex (Ex.new n)))
theorem rd_lt {env : En} {P : PyData → Prop} {i j : Int} (p : P (.bool (decide (i < j)))) : RD K rLt env (.int i) (.int j) P := rd_ltI p
theorem rd_gt {env : En} {P : PyData → Prop} {i j : Int} (p : P (.bool (decide (j < i)))) : RD K rGt env (.int i) (.int j) P := rd_gtI p
theorem rd_ge {env : En} {P : PyData → Prop} {i j : Int} (p : P (.bool (decide (j ≤ i)))) : RD K rGe env (.int i) (.int j) P := fun B σ G H x y Q I rx ry q => .inl (rd_geI p B σ G H x y Q I rx ry q)
theorem rd_geS {env : En} {P : PyData → Prop} {i j : Str} (p : P (.bool (!decide (i.cps.toList < j.cps.toList)))) : RD K rGe env (.str i) (.str j) P := fun B σ G H x y Q I rx ry q => by
  cases rx; cases ry
  exact .inr ⟨_, _, rfl, rfl, q _ G H _ p (Ex.refl G) I (.bl _)⟩
theorem rd_minus {env : En} {P : PyData → Prop} {i j : Int} (p : P (.int (i - j))) : RD K rMinus env (.int i) (.int j) P := rd_int (g := fun i j => i - j) p
theorem rd_pow {env : En} {P : PyData → Prop} {i j : Int} (hc : CPow i j) (p : P (.int (i ^ j.toNat))) : RD K rPow env (.int i) (.int j) P := rd_intC (C := CPow) (g := fun i j => i ^ j.toNat) hc p
theorem rd_inStr {env : En} {P : PyData → Prop} {i j : Str} (p : P (.bool (!(Builtin.Str.occurrences j i 0 j.length 1).isEmpty))) : RD K rInStr env (.str i) (.str j) P := rd_inS p
theorem ev_un (h : EvE K te env fun e1 d => ∃ i : Int, d = .int i ∧ P e1 (.int (-i))) : EvE K (tUn rNeg te) env P := fun B σ G H Q I q =>
  h B σ G H _ I fun x G1 H1 e1 d1 p1 x1 I1 r1 => by
    obtain ⟨i, rfl, hp⟩ := p1
    cases r1
    exact ⟨i, rfl, q _ G1 H1 e1 _ hp x1 I1 (.int _)⟩
end
section
variable {X : Cx} {a b c : Expr} {ta tb tc : TE} {pos : Pos}
theorem pe_plus (ha : PE X a ta) (hb : PE X b tb) : PE X (.BinOp a .Add b pos) (tOp (rPlus X.K) ta tb) := pe_op op_plus ha hb
theorem pe_minus (ha : PE X a ta) (hb : PE X b tb) : PE X (.BinOp a .Sub b pos) (tOp rMinus ta tb) := pe_op op_minus ha hb
theorem pe_times (ha : PE X a ta) (hb : PE X b tb) : PE X (.BinOp a .Mult b pos) (tOp (rTimes X.K) ta tb) := pe_op op_times ha hb
theorem pe_rest (ha : PE X a ta) (hb : PE X b tb) : PE X (.BinOp a .Mod b pos) (tOp rMod ta tb) := pe_op op_rest ha hb
theorem pe_over (ha : PE X a ta) (hb : PE X b tb) : PE X (.BinOp a .FloorDiv b pos) (tOp rOver ta tb) := pe_op op_over ha hb
theorem pe_power (ha : PE X a ta) (hb : PE X b tb) : PE X (.BinOp a .Pow b pos) (tOp rPow ta tb) := pe_op op_power ha hb
theorem pe_neg (ha : PE X a ta) : PE X (.UnaryOp .USub a pos) (tUn rNeg ta) := pe_un un_minus ha
theorem pe_lt (ha : PE X a ta) (hb : PE X b tb) : PE X (.Compare a [.Lt] [b] pos) (tOp rLt ta tb) := pe_cmpR op_lt' ha hb (nomark _)
theorem pt_lt (ha : PE X a ta) (hb : PE X b tb) : PT X (.Compare a [.Lt] [b] pos) (tTest (tOp rLt ta tb)) := pt_cmpR op_lt' ha hb (nomark _)
theorem pe_le (ha : PE X a ta) (hb : PE X b tb) : PE X (.Compare a [.LtE] [b] pos) (tOp rLe ta tb) := pe_cmpR op_leAny ha hb (nomark _)
theorem pt_le (ha : PE X a ta) (hb : PE X b tb) : PT X (.Compare a [.LtE] [b] pos) (tTest (tOp rLe ta tb)) := pt_cmpR op_leAny ha hb (nomark _)
theorem pe_gt (ha : PE X a ta) (hb : PE X b tb) : PE X (.Compare a [.Gt] [b] pos) (tOp rGt ta tb) := pe_cmpR op_gt' ha hb (nomark _)
theorem pt_gt (ha : PE X a ta) (hb : PE X b tb) : PT X (.Compare a [.Gt] [b] pos) (tTest (tOp rGt ta tb)) := pt_cmpR op_gt' ha hb (nomark _)
theorem pe_ge (ha : PE X a ta) (hb : PE X b tb) : PE X (.Compare a [.GtE] [b] pos) (tOp rGe ta tb) := pe_cmpR op_ge' ha hb (nomark _)
theorem pt_ge (ha : PE X a ta) (hb : PE X b tb) : PT X (.Compare a [.GtE] [b] pos) (tTest (tOp rGe ta tb)) := pt_cmpR op_ge' ha hb (nomark _)
theorem pe_is (ha : PE X a ta) (hb : PE X b tb) : PE X (.Compare a [.Is] [b] pos) (tOp rIsAny ta tb) := pe_cmpR op_isAny ha hb (nomark _)
theorem pt_is (ha : PE X a ta) (hb : PE X b tb) : PT X (.Compare a [.Is] [b] pos) (tTest (tOp rIsAny ta tb)) := pt_cmpR op_isAny ha hb (nomark _)
theorem pe_isnt (ha : PE X a ta) (hb : PE X b tb) : PE X (.Compare a [.IsNot] [b] pos) (tOp rIsNotAny ta tb) := pe_cmpR op_isNotAny ha hb (nomark _)
theorem pt_isnt (ha : PE X a ta) (hb : PE X b tb) : PT X (.Compare a [.IsNot] [b] pos) (tTest (tOp rIsNotAny ta tb)) := pt_cmpR op_isNotAny ha hb (nomark _)
theorem pe_eq {k : Nat} (hr : Room k X.A) (ha : PE X a ta) (hb : PE X b tb) : PE X (.Compare a [.Eq] [b] pos) (tOp (rEqD X.K) ta tb) := pe_cmpR (op_eqD (Room.u64 hr)) ha hb (nomark _)
theorem pt_eq {k : Nat} (hr : Room k X.A) (ha : PE X a ta) (hb : PE X b tb) : PT X (.Compare a [.Eq] [b] pos) (tTest (tOp (rEqD X.K) ta tb)) := pt_cmpR (op_eqD (Room.u64 hr)) ha hb (nomark _)
theorem pe_ne {k : Nat} (hr : Room k X.A) (ha : PE X a ta) (hb : PE X b tb) : PE X (.Compare a [.NotEq] [b] pos) (tOp (rNeD X.K) ta tb) := pe_cmpR (op_neD (Room.u64 hr)) ha hb (nomark _)
theorem pt_ne {k : Nat} (hr : Room k X.A) (ha : PE X a ta) (hb : PE X b tb) : PT X (.Compare a [.NotEq] [b] pos) (tTest (tOp (rNeD X.K) ta tb)) := pt_cmpR (op_neD (Room.u64 hr)) ha hb (nomark _)
theorem pe_ins (ha : PE X a ta) (hb : PE X b tb) (hm : behindInMarks .In b = false) : PE X (.Compare a [.In] [b] pos) (tOp rInStr ta tb) := pe_cmpR op_inStr ha hb hm
theorem pe_lele (ha : PE X a ta) (hb : PE X b tb) (hc : PE X c tc) (hm : lastMarks [.LtE, .LtE] [b, c] = false) : PE X (.Compare a [.LtE, .LtE] [b, c] pos) (tChain rLe rLe ta tb tc) := pe_chain op_leAny op_leAny ha hb hc hm
theorem pt_ins (ha : PE X a ta) (hb : PE X b tb) (hm : behindInMarks .In b = false) : PT X (.Compare a [.In] [b] pos) (tTest (tOp rInStr ta tb)) := pt_cmpR op_inStr ha hb hm
theorem pt_lele (ha : PE X a ta) (hb : PE X b tb) (hc : PE X c tc) (hm : lastMarks [.LtE, .LtE] [b, c] = false) : PT X (.Compare a [.LtE, .LtE] [b, c] pos) (tTest (tChain rLe rLe ta tb tc)) := pt_chain op_leAny op_leAny ha hb hc hm
end
section
variable {K : PySem.W.Frag} {env : En} {te : TE} {P : En → PyData → Prop} {i : Nat}
/-- [e for x in xs], e a function of x -/
theorem ev_map {wi : TI} (F : PyData → PyData) (h : EvI K wi env fun e1 xs => xs.length ≤ 100000 ∧ (∀ d, d ∈ xs → EvE K te (e1.set i (some (.dat d))) fun e4 y => e4 = e1.set i (some (.dat d)) ∧ y = F d) ∧ P (e1.set i none) (.list (xs.map F))) :
    EvE K (tLc wi (gName i) tYes te [i]) env P := ev_lc fun B σ G H R I q => h B σ G H R I fun J G1 H1 e1 xs p1 x1 I1 j => by
  obtain ⟨hl, he, hp⟩ := p1
  refine q J G1 H1 e1 xs ⟨fun m e acc => m ≤ xs.length ∧ e = e1.set i none ∧ acc = (xs.take m).map F, ⟨Nat.zero_le _, rfl, rfl⟩, ?_, ?_⟩ x1 I1 j
  · rintro m d e acc hm ⟨h1, rfl, rfl⟩
    have lt : m < xs.length := (List.getElem?_eq_some_iff.mp hm).1
    refine ⟨?_, eb_yes ⟨fun _ => ?_, fun z => by cases z⟩⟩
    · rw [List.length_map, List.length_take]
      exact Nat.lt_of_lt_of_le (Nat.lt_of_le_of_lt (Nat.min_le_left _ _) lt) (Nat.le_trans hl (by decide))
    · rw [List.set_set]
      refine (he d (List.mem_of_getElem? hm)).imp ?_
      rintro e4 y ⟨rfl, rfl⟩
      refine ⟨lt, by rw [List.set_set], ?_⟩
      rw [List.take_add_one, hm, List.map_append]
      rfl
  · rintro e acc ⟨_, rfl, rfl⟩
    rw [List.set_set, List.take_length]
    exact hp
/-- [x for x in xs if t], t a test of x -/
theorem ev_filter {wi : TI} {tt : TT} (p : PyData → Bool) (h : EvI K wi env fun e1 xs => xs.length ≤ 100000 ∧ i < e1.length ∧ (∀ d, d ∈ xs → EvB K tt (e1.set i (some (.dat d))) fun e4 b => e4 = e1.set i (some (.dat d)) ∧ b = p d) ∧ P (e1.set i none) (.list (xs.filter p))) :
    EvE K (tLc wi (gName i) tt (tVar i) [i]) env P := ev_lc fun B σ G H R I q => h B σ G H R I fun J G1 H1 e1 xs p1 x1 I1 j => by
  obtain ⟨hl, hi, he, hp⟩ := p1
  refine q J G1 H1 e1 xs ⟨fun m e acc => m ≤ xs.length ∧ e = e1.set i none ∧ acc = (xs.take m).filter p, ⟨Nat.zero_le _, rfl, rfl⟩, ?_, ?_⟩ x1 I1 j
  · rintro m d e acc hm ⟨h1, rfl, rfl⟩
    have lt : m < xs.length := (List.getElem?_eq_some_iff.mp hm).1
    have tk : xs.take (m + 1) = xs.take m ++ [d] := by rw [List.take_add_one, hm]; rfl
    refine ⟨?_, ?_⟩
    · refine Nat.lt_of_le_of_lt (List.length_filter_le _ _) ?_
      rw [List.length_take]
      exact Nat.lt_of_lt_of_le (Nat.lt_of_le_of_lt (Nat.min_le_left _ _) lt) (Nat.le_trans hl (by decide))
    · rw [List.set_set]
      intro B2 σ2 G2 H2 Q2 I2 q2
      refine he d (List.mem_of_getElem? hm) B2 σ2 G2 H2 Q2 I2 fun b G3 H3 e3 p3 x3 I3 => q2 b G3 H3 e3 ?_ x3 I3
      obtain ⟨rfl, rfl⟩ := p3
      refine ⟨fun hb => ?_, fun hb => ?_⟩
      · refine ev_var (d := d) (by rw [List.getElem?_set_self hi]) ⟨lt, by rw [List.set_set], ?_⟩
        rw [tk, List.filter_append, List.filter_cons_of_pos hb]; rfl
      · refine ⟨lt, by rw [List.set_set], ?_⟩
        rw [tk, List.filter_append, List.filter_cons_of_neg (by rw [hb]; exact Bool.false_ne_true), List.filter_nil, List.append_nil]
  · rintro e acc ⟨_, rfl, rfl⟩
    rw [List.set_set, List.take_length]
    exact hp
end
/-- a promise: the answer is F of the arguments -/
abbrev spF (n : Nat) (pre : List PyData → Prop) (F : List PyData → PyData) : Sp := spD n pre fun ds r => r = F ds
section
variable {K : PySem.W.Frag} {env : En} {P : En → PyData → Prop} {ta : TA} {pre : List PyData → Prop} {n : Nat} {F : List PyData → PyData}
theorem ev_callF (h : EvAs K ta env fun e1 ds => ds.length = n ∧ pre ds ∧ P e1 (F ds)) : EvE K (tCB (callOf (spD n pre fun ds r => r = F ds)) ta) env P :=
  ev_call fun B σ G H Q I q => h B σ G H Q I fun vs G1 H1 e1 ds p1 x1 I1 r1 => q vs G1 H1 e1 ds ⟨p1.1, p1.2.1, fun d hd => hd ▸ p1.2.2⟩ x1 I1 r1
end
/-- == and != of data; of texts without a look at their signs -/
def rEqA (K : PySem.W.Frag) : R2 := fun x y H Q => rEqD K x y H Q ∨ rEq x y H Q
def rNeA (K : PySem.W.Frag) : R2 := fun x y H Q => rNeD K x y H Q ∨ rNe x y H Q
section
variable {X : Cx} {a b : Expr} {ta tb : TE} {pos : Pos}
theorem pe_eqA {k : Nat} (hr : Room k X.A) (ha : PE X a ta) (hb : PE X b tb) : PE X (.Compare a [.Eq] [b] pos) (tOp (rEqA X.K) ta tb) := pe_cmpR ((op_eqD (Room.u64 hr)).or op_eq) ha hb (nomark _)
theorem pt_eqA {k : Nat} (hr : Room k X.A) (ha : PE X a ta) (hb : PE X b tb) : PT X (.Compare a [.Eq] [b] pos) (tTest (tOp (rEqA X.K) ta tb)) := pt_cmpR ((op_eqD (Room.u64 hr)).or op_eq) ha hb (nomark _)
theorem pe_neA {k : Nat} (hr : Room k X.A) (ha : PE X a ta) (hb : PE X b tb) : PE X (.Compare a [.NotEq] [b] pos) (tOp (rNeA X.K) ta tb) := pe_cmpR ((op_neD (Room.u64 hr)).or op_ne) ha hb (nomark _)
theorem pt_neA {k : Nat} (hr : Room k X.A) (ha : PE X a ta) (hb : PE X b tb) : PT X (.Compare a [.NotEq] [b] pos) (tTest (tOp (rNeA X.K) ta tb)) := pt_cmpR ((op_neD (Room.u64 hr)).or op_ne) ha hb (nomark _)
variable {K : PySem.W.Frag} {env : En} {P : PyData → Prop}
theorem rd_eqA {d e : PyData} (hd : eqOk d = true) (he : eqOk e = true) (p : P (.bool (PyData.eqv d e))) : RD K (rEqA K) env d e P := fun B σ G H x y Q I rx ry q => .inl (rd_eq hd he p B σ G H x y Q I rx ry q)
theorem rd_neA {d e : PyData} (hd : eqOk d = true) (he : eqOk e = true) (p : P (.bool (!PyData.eqv d e))) : RD K (rNeA K) env d e P := fun B σ G H x y Q I rx ry q => .inl (rd_ne hd he p B σ G H x y Q I rx ry q)
theorem rd_eqS {d e : Str} (p : P (.bool (decide (d = e)))) : RD K (rEqA K) env (.str d) (.str e) P := fun B σ G H x y Q I rx ry q => by
  cases rx; cases ry
  refine .inr ⟨rfl, ?_⟩
  have h : decide (V.str d = V.str e) = decide (d = e) := by
    by_cases z : d = e
    · subst z; simp
    · rw [decide_eq_false z, decide_eq_false (fun w => z (V.str.inj w))]
  rw [h]
  exact q _ G H _ p (Ex.refl G) I (.bl _)
theorem rd_neS {d e : Str} (p : P (.bool (!decide (d = e)))) : RD K (rNeA K) env (.str d) (.str e) P := fun B σ G H x y Q I rx ry q => by
  cases rx; cases ry
  refine .inr ⟨rfl, ?_⟩
  have h : decide (V.str d = V.str e) = decide (d = e) := by
    by_cases z : d = e
    · subst z; simp
    · rw [decide_eq_false z, decide_eq_false (fun w => z (V.str.inj w))]
  rw [h]
  exact q _ G H _ p (Ex.refl G) I (.bl _)
end
/-- which written part is meant -/
structure KMark (K : PySem.W.Frag) : Prop where
  mk ::
section
variable {X : Cx} {K : PySem.W.Frag} {a b c e : Expr} {ta tb tc te : TE} {pos : Pos}
theorem km_plus (m : KMark K) (hK : X.K = K) (ha : PE X a ta) (hb : PE X b tb) : PE X (.BinOp a .Add b pos) (tOp (rPlus K) ta tb) := by
  subst hK
  exact pe_plus ha hb
theorem km_times (m : KMark K) (hK : X.K = K) (ha : PE X a ta) (hb : PE X b tb) : PE X (.BinOp a .Mult b pos) (tOp (rTimes K) ta tb) := by
  subst hK
  exact pe_times ha hb
theorem km_pe_eq (m : KMark K) (hK : X.K = K) {k : Nat} (hr : Room k X.A) (ha : PE X a ta) (hb : PE X b tb) : PE X (.Compare a [.Eq] [b] pos) (tOp (rEqA K) ta tb) := by
  subst hK
  exact pe_eqA hr ha hb
theorem km_pt_eq (m : KMark K) (hK : X.K = K) {k : Nat} (hr : Room k X.A) (ha : PE X a ta) (hb : PE X b tb) : PT X (.Compare a [.Eq] [b] pos) (tTest (tOp (rEqA K) ta tb)) := by
  subst hK
  exact pt_eqA hr ha hb
theorem km_pe_ne (m : KMark K) (hK : X.K = K) {k : Nat} (hr : Room k X.A) (ha : PE X a ta) (hb : PE X b tb) : PE X (.Compare a [.NotEq] [b] pos) (tOp (rNeA K) ta tb) := by
  subst hK
  exact pe_neA hr ha hb
theorem km_pt_ne (m : KMark K) (hK : X.K = K) {k : Nat} (hr : Room k X.A) (ha : PE X a ta) (hb : PE X b tb) : PT X (.Compare a [.NotEq] [b] pos) (tTest (tOp (rNeA K) ta tb)) := by
  subst hK
  exact pt_neA hr ha hb
theorem km_slice (m : KMark K) (hK : X.K = K) {lo hi : Option Expr} {tl th : TO} {p2 : Pos} (he : PE X e te) (hl : PO X lo tl) (hh : PO X hi th) : PE X (.Subscript e (.Slice lo hi none p2) pos) (tSl (rSlice K) te tl th) := by
  subst hK
  exact pe_slice sl_any he hl hh
theorem km_ix (m : KMark K) (hK : X.K = K) (ha : PE X a ta) (hb : PE X b tb) (hs : PlainIx b) : PE X (.Subscript a b pos) (tOp (rIx K) ta tb) := by
  subst hK
  exact pe_ix ix_seq ha hb hs
theorem km_isi (m : KMark K) (hK : X.K = K) {n : String} {nm : Str} {p p2 : Pos} (bi : Bi X.mg) (hm : X.mg nm = none) (hv : bootBuiltins nm = some (.type n)) (hg : Gl X "isinstance") (hg2 : Gl X nm) (he : PE X e te)
    (h1 : starEach [e, .Name nm p2] X.env = (false, eval e X.env) :: starEach [.Name nm p2] X.env) (h2 : starEach [.Name nm p2] X.env = (false, eval (.Name nm p2) X.env) :: starEach [] X.env)
    (hpl : (backTo pos (starEach [.Name nm p2] X.env)).any (·.1) = false) (hn : nm ≠ "__name__") (hd : (nm == ("__debug__" : Str)) = false) : PE X (.Call (.Name "isinstance" p) [e, .Name nm p2] [] pos) (tCB (rIsi K) (tCons te (tCons (tC (.ty n)) tNil))) := by
  subst hK
  exact pe_isi bi hm hv hg hg2 he h1 h2 hpl hn hd
theorem km_len (m : KMark K) (hK : X.K = K) {es : List Expr} {t : TA} {p : Pos} (hg : Gl X "len") (hm : X.mg "len" = none) (ha : PA X (e :: es) t) (he : starEach (e :: es) X.env = (false, eval e X.env) :: starEach es X.env) (hpl : (backTo pos (starEach es X.env)).any (·.1) = false) : PE X (.Call (.Name "len" p) (e :: es) [] pos) (tCB (rLen K) t) := by
  subst hK
  exact pe_callB (x := "len") cl_len hg hm bLen ha (by decide) (by decide) he hpl
theorem km_all (m : KMark K) (hK : X.K = K) (hc : X.calm = true) {es : List Expr} {t : TA} {p : Pos} (hg : Gl X "all") (hm : X.mg "all" = none) (ha : PA X (e :: es) t) (he : starEach (e :: es) X.env = (false, eval e X.env) :: starEach es X.env) (hpl : (backTo pos (starEach es X.env)).any (·.1) = false) : PE X (.Call (.Name "all" p) (e :: es) [] pos) (tCB (rAll K) t) := by
  subst hK
  exact pe_callB (x := "all") (cr_all hc) hg hm bAll ha (by decide) (by decide) he hpl
theorem km_repr (m : KMark K) (hK : X.K = K) {k : Nat} (hr : Room k X.A) (hg0 : X.A.guards = some []) {es : List Expr} {t : TA} {p : Pos} (hg : Gl X "repr") (hm : X.mg "repr" = none) (ha : PA X (e :: es) t) (he : starEach (e :: es) X.env = (false, eval e X.env) :: starEach es X.env) (hpl : (backTo pos (starEach es X.env)).any (·.1) = false) : PE X (.Call (.Name "repr" p) (e :: es) [] pos) (tCB (rRepr K) t) := by
  subst hK
  exact pe_callB (x := "repr") (call_repr hr hg0) hg hm bRepr ha (by decide) (by decide) he hpl
theorem km_sum (m : KMark K) (hK : X.K = K) (hc : X.calm = true) {es : List Expr} {t : TA} {p : Pos} (hg : Gl X "sum") (hm : X.mg "sum" = none) (ha : PA X (e :: es) t) (he : starEach (e :: es) X.env = (false, eval e X.env) :: starEach es X.env) (hpl : (backTo pos (starEach es X.env)).any (·.1) = false) : PE X (.Call (.Name "sum" p) (e :: es) [] pos) (tCB (rSum K) t) := by
  subst hK
  exact pe_callB (x := "sum") (cr_sum hc) hg hm bSum ha (by decide) (by decide) he hpl
theorem km_tuple (m : KMark K) (hK : X.K = K) {es : List Expr} {t : TA} {p : Pos} (hg : Gl X "tuple") (hm : X.mg "tuple" = none) (ha : PA X (e :: es) t) (he : starEach (e :: es) X.env = (false, eval e X.env) :: starEach es X.env) (hpl : (backTo pos (starEach es X.env)).any (·.1) = false) : PE X (.Call (.Name "tuple" p) (e :: es) [] pos) (tCB (rTuple K) t) := by
  subst hK
  exact pe_callTy (x := "tuple") cl_tuple hg hm bTuple ha (by decide) (by decide) he hpl
theorem km_revT (m : KMark K) (hK : X.K = K) {k : Nat} {p1 p2 p3 : Pos} (he : PE X e te) : PE X (.Subscript e (.Slice none none (some (.UnaryOp .USub (.Constant (.int 1) k p1) p2)) p3) pos) (tRevT K te) := by
  subst hK
  exact pe_revT he
theorem km_list (m : KMark K) (hK : X.K = K) {tg : Expr} (hl : PE X e te) : PI X tg e (iList K te) := by
  subst hK
  exact pi_list hl
theorem km_tup (m : KMark K) (hK : X.K = K) {tg : Expr} (hl : PE X e te) : PI X tg e (iTup K te) := by
  subst hK
  exact pi_tup hl
theorem km_gtup (m : KMark K) (hK : X.K = K) {es : List Expr} {k : Nat} {t : TGs} {n : Nat} (hc : X.calm = true) (h : PGs X es t) (hn : (assignEach es X.env).length = n) (hst : (assignEach es X.env).findIdx? (·.1) = none) : PG X (.Tuple es k pos) (gTup K n t) := by
  subst hK
  exact pg_tup hc h hn hst
end
theorem rc_allM {K : PySem.W.Frag} {env : En} {P : PyData → Prop} {es : List PyData} {p : PyData → Bool} (h : P (.bool (es.all p))) : RC K (rAll K) env [.list (es.map fun d => .bool (p d))] P := by
  have e : (es.map fun d => PyData.bool (p d)) = (es.map p).map .bool := by rw [List.map_map]; rfl
  rw [e]
  refine rc_all ?_
  rw [List.all_map]
  exact h
theorem pe_disp1 {X : Cx} {x : Str} {j : Int} {k1 k2 : Nat} {p1 p2 pos : Pos} : PE X (.Dict [some (.Constant (.str x) k1 p1)] [.Constant (.int j) k2 p2] pos) (tDisp [(tC (.str x), tC (.int j))]) :=
  pe_disp (pps_cons pe_str pe_int pps_nil) rfl rfl (fun z => by cases z) (Nat.le_of_ble_eq_true rfl)
theorem fm (a : Int) {m : Int} (h : 0 < m ∧ m ≤ 2 ^ 64) : -(2 ^ 64) < a.fmod m ∧ a.fmod m < 2 ^ 64 := by
  have h1 := Int.fmod_nonneg_of_pos a h.1
  have h2 := Int.fmod_lt_of_pos a h.1
  omega
/-! ### the pile -/
section
variable {K : PySem.W.Frag} {env : En} {P : En → PyData → Prop} {O : Outs} {i : Nat} {p : Addr}
theorem ev_pix {tb : TE} (hi : env[i]? = some (some (.pile p))) (h : EvE K tb env fun e1 d => e1[i]? = some (some (.pile p)) ∧ ∃ j : Nat, d = .int j ∧ j < 3 ∧ ∀ z, P e1 (.int z)) : EvE K (tOp (rIx K) (tVar i) tb) env P := fun B σ G H Q I q => by
  obtain ⟨v, h1, rfl, _⟩ := I.sl i _ hi
  refine ⟨_, h1, ?_⟩
  refine h B σ G H _ I fun y G1 H1 e1 d1 p1 x1 I1 r1 => ?_
  obtain ⟨h2, j, rfl, hj, hp⟩ := p1
  cases r1
  obtain ⟨_, _, _, _, a, b, c, hl⟩ := I1.sl i _ h2
  have go : ∀ z, ([V.int a, .int b, .int c])[j]? = some (.int z) → rIx K (.ref p) (.int (j : Int)) H1 Q := fun z hz => .inl ⟨p, _, _, _, rfl, rfl, SqL.of hl, atI_nat hz, q _ G1 H1 e1 _ (hp z) x1 I1 (.int z)⟩
  match j, hj with
  | 0, _ => exact go a rfl
  | 1, _ => exact go b rfl
  | 2, _ => exact go c rfl
theorem es_pput {te ti : TE} (h : EvE K te env fun e1 d => (∃ z, d = .int z) ∧ (∃ p, e1[i]? = some (some (.pile p))) ∧ EvE K ti e1 fun e2 k => e2 = e1 ∧ (∃ j : Nat, k = .int j ∧ j < 3) ∧ O.nx e1) : EvS K (tAsg te (gSub (tVar i) ti rSetL)) env O := fun B σ G H D I a b c d f => by
  refine h B σ G H _ I fun y G1 H1 e1 d1 p1 x1 I1 r1 => ?_
  obtain ⟨⟨z, rfl⟩, ⟨p, hi⟩, p1⟩ := p1
  cases r1
  obtain ⟨v, h1, rfl, _⟩ := I1.sl i _ hi
  refine ⟨_, h1, ?_⟩
  refine p1 B σ G1 H1 _ I1 fun k G2 H2 e2 kd p2 x2 I2 r2 => ?_
  obtain ⟨rfl, ⟨j, rfl, hj⟩, hn⟩ := p2
  cases r2
  obtain ⟨_, _, _, g2, a0, b0, c0, hl⟩ := I2.sl i _ hi
  have e : env.length = env.length := rfl
  have go : ∀ xs : List V, (∃ a b c : Int, xs = [.int a, .int b, .int c]) → D.nx σ (upd H2 p (.lst xs)) := fun xs ⟨a1, b1, c1, hx⟩ => by
    have := I2.put (s' := .pile p) (o := .lst xs) hi rfl rfl rfl ⟨rfl, g2, a1, b1, c1, by rw [hx]; exact upd_same⟩
    rw [set_same hi] at this
    exact a σ G2 _ _ hn (x1.trans x2) this
  refine ⟨p, _, (j : Int), j, rfl, rfl, hl, ?_, ?_⟩
  · unfold ixN
    rw [if_pos (Int.natCast_nonneg j), if_pos (by show (j : Int) < ((3 : Nat) : Int); omega), Int.toNat_natCast]
  · match j, hj with
    | 0, _ => exact go _ ⟨z, b0, c0, rfl⟩
    | 1, _ => exact go _ ⟨a0, z, c0, rfl⟩
    | 2, _ => exact go _ ⟨a0, b0, z, rfl⟩
end
theorem km_append {X : Cx} {K : PySem.W.Frag} (m : KMark K) (hK : X.K = K) {o e : Expr} {te : TE} {t : TA} {apos cpos : Pos} (ho : PE X o te) (ha : PA X [e] t)
    (h1 : attributeBase o "append" X.env (eval o X.env) = eval o X.env)
    (h2 : ((backTo cpos (starEach [e] X.env)).all (fun x => !x.1) && (backToKw cpos (keywordEach [] X.env)).all (fun x => x.1.isSome) && decide (([e] : List Expr).length + ([] : List Keyword).length + (if ([] : List Keyword).isEmpty then 0 else 1) < 30)) = true)
    (h3 : (apos.endLine == cpos.line) = true) (h4 : starEach [e] X.env = (false, eval e X.env) :: starEach [] X.env) (h5 : (backTo cpos (starEach [] X.env)).any (·.1) = false) :
    PE X (.Call (.Attribute o "append" apos) [e] [] cpos) (tBM K "list" rAppend te t) := by
  subst hK
  exact pe_bm PySem.F.plainAttrs_list PySem.F.slot_list_append PySem.F.type_list_append mt_append ho ha h1 h2 h3 h4 h5
end FD

set_option Elab.async false
set_option linter.all false
set_option maxRecDepth 100000
set_option maxHeartbeats 2000000
namespace FD
open PySem PySem.Spec PyProof.Rows L2
/-- y = [elt for x in iter if ..] -/
theorem ps_lc1 {X : Cx} {N : List Str} {i j : Nat} {x y : Str} {px py : Pos} {elt iter : Expr} {ifs : List Expr} {scope : Scope} {pos spos : Pos} {wi : TI} {tt : TT} {te : TE} (hc : X.calm = true) (hN : X.N.Nodup) (hj : N[j]? = some y) (hX : X.N = N)
    (hy : X.env.scope.names.lookup y = some .local) (hf : X.env.scope.kind = .function) (hl : (py.line == pos.line) = true) (ha : (scope.names.any fun (n, k) => n == y && (k == .local || k == .cell)) = false)
    (hg : ∀ (s : Shared) (H : Hp) (C : Addr) (cl : List (Str × Addr)) (fp : List Addr), PG (X.blk s H scope (compEnvC scope cl C X.env) fp) (.Name x px) (gName i))
    (ok : blkC X.N X.env.scope scope [(x, i)] = true) (hi : PI X (.Name x px) iter wi)
    (ht : ∀ (s : Shared) (H : Hp) (C : Addr) (cl : List (Str × Addr)) (fp : List Addr), PTs (X.blk s H scope (compEnvC scope cl C X.env) fp) ifs tt)
    (he : ∀ (s : Shared) (H : Hp) (C : Addr) (cl : List (Str × Addr)) (fp : List Addr), PE (X.blk s H scope (compEnvC scope cl C X.env) fp) elt te)
    (hs : ∀ z, foldedSetIterable iter X.env z = pure z) :
    PS X (.Assign [.Name y py] (.ListComp elt [⟨.Name x px, iter, ifs, 0⟩] scope pos) spos) (tAsg (tLc wi (gName i) tt te [i]) (gName j)) :=
  ps_setLc (own := [(x, i)]) (g := gName i) hc hN (by rw [hX]; exact hj) hy (sw_true hf hy hl ha) hi (blkOk_by ok) hg ht he hs
end FD

set_option Elab.async false
set_option linter.all false
set_option maxRecDepth 100000
set_option maxHeartbeats 2000000
namespace FD
open PySem PySem.Spec PyProof.Rows L2
/-- x stands in y -/
def inS (i j : Str) : Bool := !(Builtin.Str.occurrences j i 0 j.length 1).isEmpty
section
variable {X : Cx} {a b : Expr} {ta tb : TE} {pos : Pos}
def rNinStr : R2 := fun x y H Q => ∃ i j, x = .str i ∧ y = .str j ∧ Q (.bl (!(!(Builtin.Str.occurrences j i 0 j.length 1).isEmpty))) H
theorem pe_nins (ha : PE X a ta) (hb : PE X b tb) (hm : behindInMarks .NotIn b = false) : PE X (.Compare a [.NotIn] [b] pos) (tOp rNinStr ta tb) := pe_cmpR op_notin_str ha hb hm
theorem pt_nins (ha : PE X a ta) (hb : PE X b tb) (hm : behindInMarks .NotIn b = false) : PT X (.Compare a [.NotIn] [b] pos) (tTest (tOp rNinStr ta tb)) := pt_cmpR op_notin_str ha hb hm
end
section
variable {K : PySem.W.Frag} {env : En} {P : PyData → Prop}
theorem rd_ninStr {i j : Str} (p : P (.bool (!inS i j))) : RD K rNinStr env (.str i) (.str j) P := fun B σ G H x y Q I rx ry q => by
  cases rx; cases ry
  exact ⟨_, _, rfl, rfl, q _ G H _ p (Ex.refl G) I (.bl _)⟩
end
end FD

set_option Elab.async false
set_option linter.all false
set_option maxRecDepth 100000
set_option maxHeartbeats 2000000
namespace FD
open PySem PySem.Spec PySem.Calls PyProof.Rows L2
section
variable {prog : Program} {w : World} {A : Around} {E : Value → Shared → Prop} {s : Shared} {x : Str} {t : Tok}
theorem lx_hint {Q : Bool → Shared → Prop} (q : Q false s) : wpAny (model prog w) A (Builtin.List.listLengthHint (.str x t)) Q E s := by
  have ty : s.TypeIs (.str x t) "str" := typeIs_str s x t
  unfold Builtin.List.listLengthHint
  refine wpAny_bind (wpAny_specialOf ty PySem.F.slot_str_len.lookup ?_)
  generalize nm : ("str.__len__" : String) = n0
  wp_delta
  rw [show splitId n0 = some ("str", "__len__") from by subst nm; decide +kernel]
  subst nm
  refine wpAny_bind (wpAny_isInstance (T := "str") (b := true) ty (by rw [isSubtype_type]; kernel_rfl) ?_)
  refine wpAny_ite_split (fun z => absurd z (by decide)) (fun _ => ?_)
  refine wpAny_ite_split (fun _ => ?_) (fun z => absurd (by decide +kernel) z)
  refine wpAny_bind (wpAny_typeOf ty ?_)
  exact wpAny_pure q
theorem lx_ext {R : Result → Shared → Prop} (calm : A.handled = none) (L : Addr) (res : Value) (c0 : Nat) (at_ : s.heap.get? L = some { cls := .type "list", data := .seq #[] c0 })
    (fin : ∀ h tk xs c, (∀ b o, b ≠ L → s.heap.get? b = some o → h.get? b = some o) → h.get? L = some { cls := .type "list", dict := none, data := .seq xs c, slots := #[] } → ItemsOf (SignAt x) xs x.cps.size → R (.ok (.ret res)) { s with heap := h, toks := tk }) (small : x.cps.size ≤ sizeLine) :
    wpAny (model prog w) A.in1 (Builtin.List.listExtendWith (.ref L) (.str x t) res)
      (fun f s' => match f with | .done f => R (.ok f) s' | .again c => c.quiet = true ∧ codeAny (model prog w) A c R s') (fun e s' => R (.error e) s') s := by
  have ty : s.TypeIs (.str x t) "str" := typeIs_str s x t
  have LI : L ≠ s.heap.objs.size := Nat.ne_of_lt (Heap.lt_size at_)
  have off : L ∉ [s.heap.objs.size] := by simpa using LI
  unfold Builtin.List.listExtendWith
  refine wpAny_bind (wpAny_typeOf (T := "str") ty ?_)
  have h1 : Builtin.List.listSameRef (.ref L) (.str x t) = false := by rfl
  have h2 : (Value.type "str" == Value.type "list") = false := by decide
  have h3 : (Value.type "str" == Value.type "tuple") = false := by decide
  simp only [h1, h2, h3, Bool.or_false, Bool.false_eq_true, if_false]
  refine wpAny_bind (wpAny_pyIter_str fun o St W st => ?_)
  have W := W A.in1 calm
  have key : ∀ (h : Heap) (c1 tk : Nat), St 0 h → (∀ b o, b ≠ L → s.heap.get? b = some o → h.get? b = some o) →
      h.get? L = some { cls := .type "list", data := .seq #[] c1 } → codeAny (model prog w) A (.builtin "list.extend.loop" ⟨[.ref L, .ref s.heap.objs.size, res], []⟩) R { s with heap := h, toks := tk } := by
    intro h c1 tk s0 old l1
    refine codeAny_extend_loopS W.toS small L off res _ 0 _ #[] c1 rfl (Nat.zero_le _) s0 l1 (ItemsOf.nil _) fun s2 xs c mv l2 its => ?_
    rw [Moved.eq_with mv]
    refine fin s2.heap s2.toks xs c (fun b o hb e => mv.heap b o (fun hm => ?_) (old b o hb e)) l2 its
    rcases List.mem_cons.mp hm with z | hm
    · exact hb z
    · exact absurd (Heap.lt_size e) (by rw [List.mem_singleton.mp hm]; exact Nat.lt_irrefl _)
  have l1 := Heap.get?_push_of_some o at_
  refine wpAny_bind (wpAny_holding (lx_hint ?_))
  refine wpAny_ite_split (fun _ => ?_) (fun _ => wpAny_pure ⟨plainId_quiet PySem.F.plain_extend_loop _, key _ c0 _ st (fun b o _ e => Heap.get?_push_of_some _ e) l1⟩)
  refine wpAny_bind (wpAny_rule (wpAny_bind ?_))
  show wpAny _ _ (bind (updateSeq L (·.push .none)) fun _ => updateSeq L (·.pop)) _ _ _
  refine wpAny_bind (wpAny_updateSeq l1 rfl ?_)
  have l2 := Heap.get?_update_self (Obj.mapSeq (·.push Value.none)) l1 rfl
  refine wpAny_updateSeq (hz := by seq_fits) l2 rfl ?_
  have l3 := Heap.get?_update_self (Obj.mapSeq (·.pop)) l2 rfl
  refine wpAny_pure ⟨plainId_quiet PySem.F.plain_extend_loop _, key _ _ _ (W.frame 0 _ _ st fun b hb u e => ?_) (fun b u hb e => ?_) l3⟩
  · have hL : b ≠ L := fun z => off (z ▸ hb)
    exact (Heap.get?_update_other _ _ (Ne.symm hL)).trans ((Heap.get?_update_other _ _ (Ne.symm hL)).trans e)
  · exact (Heap.get?_update_other _ _ (Ne.symm hb)).trans ((Heap.get?_update_other _ _ (Ne.symm hb)).trans (Heap.get?_push_of_some _ e))
theorem lx_init {R : Result → Shared → Prop} (calm : A.handled = none) (L : Addr) (at_ : s.heap.get? L = some { cls := .type "list", data := .seq #[] })
    (fin : ∀ h tk xs c, (∀ b o, b ≠ L → s.heap.get? b = some o → h.get? b = some o) → h.get? L = some { cls := .type "list", dict := none, data := .seq xs c, slots := #[] } → ItemsOf (SignAt x) xs x.cps.size → R (.ok (.ret .none)) { s with heap := h, toks := tk }) (small : x.cps.size ≤ sizeLine) :
    wpAny (model prog w) A.in1 (Builtin.«list.__init__» ⟨[.ref L, .str x t], []⟩)
      (fun f s' => match f with | .done f => R (.ok f) s' | .again c => c.quiet = true ∧ codeAny (model prog w) A c R s') (fun e s' => R (.error e) s') s := by
  show wpAny _ _ (bind (Builtin.List.listItems (.ref L)) fun old => bind (Builtin.List.listUpdate (.ref L) (fun _ => #[])) fun _ => bind (letGo old.toList.reverse) fun _ => Builtin.List.listExtendWith (.ref L) (.str x t) .none) _ _ s
  refine wpAny_bind ?_
  unfold Builtin.List.listItems
  refine wpAny_bind (wpAny_seqItems at_ rfl (wpAny_pure ?_))
  show wpAny _ _ (bind (updateSeq L (fun _ => #[])) fun _ => bind (letGo (#[] : Array Value).toList.reverse) fun _ => Builtin.List.listExtendWith (.ref L) (.str x t) .none) _ _ s
  refine wpAny_bind (wpAny_updateSeq at_ rfl ?_)
  have l2 := Heap.get?_update_self (Obj.mapSeq (fun _ => (#[] : Array Value))) at_ rfl
  have old : ∀ b o, b ≠ L → s.heap.get? b = some o → (s.heap.update L (Obj.mapSeq (fun _ => (#[] : Array Value)))).get? b = some o := fun b o hb e => (Heap.get?_update_other _ _ (Ne.symm hb)).trans e
  refine wpAny_bind (wpAny_letGo ?_)
  exact lx_ext calm L .none _ l2 (fun h tk xs c k l3 its => fin h tk xs c (fun b o hb e => k b o hb (old b o hb e)) l3 its) small
theorem lx_call {Q : Value → Shared → Prop} (calm : A.handled = none) (small : x.cps.size ≤ sizeLine)
    (q : ∀ h tk xs c, (∀ b o, s.heap.get? b = some o → h.get? b = some o) → h.get? s.heap.objs.size = some { cls := .type "list", dict := none, data := .seq xs c, slots := #[] } → ItemsOf (SignAt x) xs x.cps.size → Q (.ref s.heap.objs.size) { s with heap := h, toks := tk }) :
    wpAny (model prog w) A (call (.type "list") [.str x t]) Q E s := by
  refine callType_codes (Q₁ := fun ob s1 => ob = .ref s.heap.objs.size ∧ s1 = { s with heap := s.heap.push { cls := .type "list", data := .seq #[] } }) PySem.F.called_list (PySem.F.typeCall_list_1 _) PySem.F.entry_list_init
    (code_list_new _ ⟨rfl, rfl⟩) fun ob s1 h1 => ?_
  obtain ⟨rfl, rfl⟩ := h1
  have l1 : (s.heap.push { cls := .type "list", data := .seq #[] }).get? s.heap.objs.size = some { cls := .type "list", data := .seq #[] } := Heap.get?_push_size _ rfl
  refine ⟨⟨_, l1, rfl⟩, PySem.F.args_list_init_2 _ _, lx_init (A := A.in1) calm _ l1 (fun h tk xs c k l2 its => ?_) small⟩
  exact ⟨rfl, q h tk xs c (fun b o e => k b o (Nat.ne_of_lt (Heap.lt_size e)) (Heap.get?_push_of_some _ e)) l2 its⟩
end
/-- list(text) -/
def rLstS : List V → Hp → VK → Prop := fun xs H Q => ∃ x : Str, xs = [.str x] ∧ x.length ≤ sizeLine ∧ ∀ q, H q = none → Q (.ref q) (upd H q (.lst (x.cps.toList.map fun c => V.str ⟨#[c]⟩)))
theorem cl_listS {X : Cx} (hc : X.calm = true) : CallR X (.type "list") rLstS := by
  intro pins s σ H xs us Q I r h
  obtain ⟨x, e, small, q⟩ := h
  subst e
  obtain ⟨u, eu, rx⟩ := vals1 r
  subst eu
  obtain ⟨t, rfl⟩ := rx
  refine lx_call (I.ok.hd hc) small fun h' tk zs c k l2 its => ?_
  refine ⟨.ref s.heap.objs.size, upd H s.heap.objs.size (.lst (x.cps.toList.map fun c => V.str ⟨#[c]⟩)), I.laid k (Nat.le_refl _) (show ObjOk X.prog X.w _ _ _ (.lst (x.cps.toList.map fun c => V.str ⟨#[c]⟩)) from ⟨?_, zs.toList, c, ?_, ?_⟩), rfl, q _ (I.hok.fresh (Nat.le_refl _))⟩
  · rw [List.length_map, Array.length_toList]; exact small
  · refine vals_of_at (by rw [List.length_map, Array.length_toList, Array.length_toList]; exact its.1.symm) fun j a b h1 h2 => ?_
    obtain ⟨d, u, hd, rfl⟩ := its.2 j b (by rw [← Array.getElem?_toList]; exact h2)
    rw [List.getElem?_map, Array.getElem?_toList, hd] at h1
    cases h1
    exact ⟨u, rfl⟩
  · rw [Array.toArray_toList]; exact l2
theorem signs_dd (G : Hp) : ∀ l : List Nat, DdAll G (l.map fun c => V.str ⟨#[c]⟩) (l.map fun c => PyData.str ⟨#[c]⟩)
  | [] => .nil
  | c :: l => .cons (.str _) (signs_dd G l)
theorem rc_listS {K : PySem.W.Frag} {env : En} {P : PyData → Prop} {x : Str} (hl : x.length ≤ sizeLine) (p : P (.list (FD.signs x))) : RC K rLstS env [.str x] P := fun B σ G H xs Q I rx q => by
  obtain ⟨y, rfl, h⟩ := rx.one
  cases h
  refine ⟨x, rfl, hl, fun l nl => ?_⟩
  have n := I.exH.fresh nl
  exact q _ _ _ _ p (Ex.new n) (I.new nl) (.lst upd_same ((signs_dd G _).ex (Ex.new n)))
/-- list(e), e a text -/
theorem pe_listS {X : Cx} {e : Expr} {es : List Expr} {ta : TA} {p pos : Pos} (hc : X.calm = true) (hg : Gl X "list") (hm : X.mg "list" = none) (ha : PA X (e :: es) ta)
    (he : starEach (e :: es) X.env = (false, eval e X.env) :: starEach es X.env) (hp : (backTo pos (starEach es X.env)).any (·.1) = false) : PE X (.Call (.Name "list" p) (e :: es) [] pos) (tCB rLstS ta) :=
  pe_callTy (x := "list") (cl_listS hc) hg hm bList ha (by decide) (by decide) he hp
end FD

set_option Elab.async false
set_option linter.all false
set_option maxRecDepth 100000
set_option maxHeartbeats 2000000
namespace FD
open PySem PySem.Spec PySem.Calls PySem.Froz PyProof.Rows L2
/-! sorted(set(x)) of a text of the letters a to z -/
theorem one_inj {a b : Nat} (h : sing a = sing b) : a = b := (List.cons.inj (congrArg (fun y : Str => y.cps.toList) h)).1
theorem one_mem {c : Nat} {cs : List Nat} : sing c ∈ cs.map sing ↔ c ∈ cs :=
  ⟨fun h => let ⟨_, hd, e⟩ := List.mem_map.mp h; one_inj e ▸ hd, fun h => List.mem_map.mpr ⟨c, h, rfl⟩⟩
/-- the payload holds the signs cs, each once, and its places rise -/
structure Pay (P : Program) (w : World) (D : SD) (cs : List Nat) : Prop where
  ok : TxOk P w D (cs.map sing)
  pm : (D.1.toList.map fun e => PyProof.Rows.strOf e.2).Perm (cs.map sing)
  ris : Ris D.2.2.place.toList
  led : w.params.followText "set-order" = true ∨ D.2.2.led = true
theorem tail_pm {ep : Nat} {es : Array (Int × Value)} {t : SetTable} {b : Bool} : (tailTx ep es t b).1.toList.Perm es.toList := by
  unfold tailTx
  split
  · exact relayAll_perm _ _ _
  · exact .refl _
theorem tail_ris {ep : Nat} {es : Array (Int × Value)} {t : SetTable} {b : Bool} (h : Ris t.place.toList) : Ris (tailTx ep es t b).2.2.place.toList := by
  unfold tailTx
  split
  · exact relayAll_ris _ _ _
  · exact h
theorem tail_led {ep : Nat} {es : Array (Int × Value)} {t : SetTable} {b : Bool} : (tailTx ep es t b).2.2.led = t.led := by
  unfold tailTx
  split
  · exact relayAll_led _ _ _
  · rfl
theorem off_place (t : SetTable) : (if t.plain = true then { t with plain := false } else t).place = t.place := by split <;> rfl
theorem off_led (t : SetTable) : (if t.plain = true then { t with plain := false } else t).led = t.led := by split <;> rfl
theorem Pay.add {P : Program} {w : World} {D : SD} {cs : List Nat} {c : Nat} (u : Tok) (R : Pay P w D cs) : Pay P w (addTx (hashStr w (sing c)) (.str (sing c) u) D) (c :: cs) := by
  obtain ⟨es, ep, t⟩ := D
  obtain ⟨a1, a2, a3, a4⟩ := R
  refine ⟨add_ok (k := sing c) u a1, ?_, tail_ris ?_, a4.imp id fun z => tail_led.trans ((off_led _).trans ((layNew_led t es (hashStr w (sing c)) (.str (sing c) u)).trans z))⟩
  · refine ((tail_pm.trans (layNew_perm t es (hashStr w (sing c)) (.str (sing c) u))).map _).trans ?_
    rw [Array.toList_push, List.map_append]
    exact (List.perm_append_singleton _ _).trans (a2.cons _)
  · rw [off_place]
    exact layNew_ris t es (hashStr w (sing c)) (.str (sing c) u) a3
section
variable {P : Program} {w : World} {A : Around} {E : Value → Shared → Prop} {s : Shared}
theorem Pay.again {a : Addr} {D : SD} {cs : List Nat} {c : Nat} {u : Tok} {Q : Bool → Shared → Prop} (at_ : s.heap.get? a = some (sObj "set" D)) (R : Pay P w D cs) (old : c ∈ cs) (few : cs.length < scanBound) (q : Q false s) :
    wpAny (model P w) A (setAddHashed a (.str (sing c) u) (hashStr w (sing c))) Q E s := by
  obtain ⟨es, ep, t⟩ := D
  have k1 : (PySem.strKind P w).is (sing c) (.str (sing c) u) = true := is_str _ u
  have k2 : ElemsOf (PySem.strKind P w) es.toList := R.ok.el
  have k3 : t.fits es.size = true := R.ok.fit
  have k4 : es.size < scanBound := by
    have z : es.size = (cs.map sing).length := R.ok.sz
    rw [z, List.length_map]; exact few
  obtain ⟨e, he, ke⟩ := (R.ok.mem (sing c)).mp (one_mem.mpr old)
  unfold setAddHashed setAddHashedIn
  refine wpAny_holding (wpAny_bind (wpAny_setState_of at_ (rfl : (sObj "set" (es, ep, t)).data = .set es ep t) k3 ?_))
  dsimp only
  rw [byScan_of rfl k4 k2, if_pos rfl]
  unfold setAddByScan
  refine wpAny_bind (wpAny_bind (wpAny_rule (wpAny_bind (wpAny_setScan_of (knd := PySem.strKind P w) (k := sing c) k1 at_ (rfl : (sObj "set" (es, ep, t)).data = .set es ep t) k3 k2 ?_))))
  cases f : List.findIdx? (fun e => (PySem.strKind P w).is (sing c) e.2) es.toList with
  | some j => exact wpAny_pure (wpAny_pure q)
  | none => exact absurd ke (by rw [List.findIdx?_eq_none_iff.mp f e he]; exact Bool.false_ne_true)
/-- the set at a holds just the signs that p tells -/
def SetAtS (P : Program) (w : World) (h : Heap) (a : Addr) (p : Nat → Prop) : Prop := ∃ D cs, h.get? a = some (sObj "set" D) ∧ Pay P w D cs ∧ cs.Nodup ∧ ∀ c, c ∈ cs ↔ p c
theorem SetAtS.keep {h h' : Heap} {a : Addr} {p : Nat → Prop} (R : SetAtS P w h a p) (k : ∀ o, h.get? a = some o → h'.get? a = some o) : SetAtS P w h' a p :=
  let ⟨D, cs, e, r⟩ := R; ⟨D, cs, k _ e, r⟩
def Az (l : List Nat) : Prop := ∀ c ∈ l, 97 ≤ c ∧ c ≤ 122
theorem az_few {cs l : List Nat} (nd : cs.Nodup) (h : Az l) (m : ∀ c ∈ cs, c ∈ l) : cs.length ≤ 26 := by
  have z := nat_nodup_len cs (List.range' 97 26) nd fun c hc => by
    have := h c (m c hc)
    rw [List.mem_range'_1]; omega
  simpa using z
theorem set_turns {I : Addr} {fp wr : List Addr} {G : Array GenState → Array GenState → Prop} {n : Nat} {St : Nat → Shared → Prop} {R : Result → Shared → Prop} {x : Str}
    (W : WalksS P w A.in1 I fp wr G n (SignAt x) St) (S : Addr) (away : S ∉ fp) (full : n = x.cps.size) (az : Az x.cps.toList) :
    ∀ (k i : Nat) (s : Shared), n - i = k → i ≤ n → St i s → SetAtS P w s.heap S (fun c => c ∈ x.cps.toList.take i) →
      (∀ s', Moved (S :: wr) G s s' → SetAtS P w s'.heap S (fun c => c ∈ x.cps.toList) → R (.ok (.ret .none)) s') →
      codeAny (model P w) A (.builtin "set.update.loop" ⟨[.ref S, .ref I], []⟩) R s := by
  have nw : S ∉ wr := fun h => away (W.sub _ h)
  have up : ∀ b ∈ wr, b ∈ S :: wr := fun b hb => .tail _ hb
  intro k
  induction k with
  | zero =>
    intro i s e1 e2 st R0 fin
    obtain rfl : i = n := by omega
    refine codeAny_builtin F.entry_set_update_loop ?_
    rw [Around.under_plainId F.plain_set_update_loop _]
    show wpAny _ A.in1 (pyNext (.ref I) >>= _) _ _ s
    refine wpAny_bind (W.done s _ _ st fun s' mv => wpAny_pure (fin s' (mv.mono up) ?_))
    have t : x.cps.toList.take i = x.cps.toList := List.take_of_length_le (by rw [Array.length_toList]; omega)
    rw [t] at R0
    exact R0.keep fun o e => mv.heap S o nw e
  | succ k ih =>
    intro i s e1 e2 st R0 fin
    have lt : i < n := by omega
    refine codeAny_builtin F.entry_set_update_loop ?_
    rw [Around.under_plainId F.plain_set_update_loop _]
    show wpAny _ A.in1 (pyNext (.ref I) >>= _) _ _ s
    refine wpAny_bind (W.item i s _ _ lt st fun v s' hP st' mv => ?_)
    obtain ⟨c, u, hc, rfl⟩ := hP
    have hc' : x.cps.toList[i]? = some c := by rw [Array.getElem?_toList]; exact hc
    obtain ⟨D, cs, at_, pay, nd, mem⟩ := R0.keep (h' := s'.heap) fun o e => mv.heap S o nw e
    have few : cs.length ≤ 26 := az_few nd az fun d hd => List.mem_of_mem_take ((mem d).mp hd)
    have tk : x.cps.toList.take (i + 1) = x.cps.toList.take i ++ [c] := by rw [List.take_add_one, hc']; rfl
    have next : ∀ h' : Heap, (∀ b, b ≠ S → h'.get? b = s'.heap.get? b) → SetAtS P w h' S (fun c => c ∈ x.cps.toList.take (i + 1)) →
        codeAny (model P w) A (.builtin "set.update.loop" ⟨[.ref S, .ref I], []⟩) R { s' with heap := h', toks := s'.toks + 1 } := fun h' sb R1 => by
      refine ih (i + 1) _ (by omega) lt (W.frame _ s' _ _ st' (Nat.le_succ _) fun b hb o e => ?_) R1 fun s2 mv2 R2 => fin s2 (Moved.trans W.gtrans ((mv.mono up).then_heap (Nat.le_succ _) fun b o hb e => ?_) mv2) R2
      · rw [sb b fun z => away (z ▸ hb)]; exact e
      · rw [sb b fun z => hb (z ▸ List.mem_cons_self)]; exact e
    show wpAny _ A.in1 (holding [Value.str (sing c) u] (setAdd S (.str (sing c) u)) >>= _) _ _ s'
    refine wpAny_bind (wpAny_holding ?_)
    unfold setAdd
    refine wpAny_holding (wpAny_bind ((PySem.strKind P w).pyHash (k := sing c) (is_str _ _) ?_))
    by_cases old : c ∈ cs
    · refine Pay.again (s := { s' with toks := s'.toks + 1 }) at_ pay old (Nat.lt_of_le_of_lt few (by decide)) ?_
      refine wpAny_pure ⟨plainId_quiet F.plain_set_update_loop _, next s'.heap (fun _ _ => rfl) ⟨D, cs, at_, pay, nd, fun d => ?_⟩⟩
      show d ∈ cs ↔ d ∈ _
      rw [tk, List.mem_append, List.mem_singleton, mem d]
      exact ⟨.inl, fun z => z.elim id fun e => e ▸ (mem c).mp old⟩
    · refine add_x (l := cs.map sing) (D := D) (s := { s' with toks := s'.toks + 1 }) at_ pay.ok (fun z => old (one_mem.mp z)) (by rw [List.length_map]; exact Nat.lt_of_le_of_lt (Nat.succ_le_succ few) (by decide)) ?_
      refine wpAny_pure ⟨plainId_quiet F.plain_set_update_loop _, next _ (fun b hb => Heap.get?_update_other _ _ (Ne.symm hb)) ⟨_, c :: cs, get_upd _ at_ rfl, pay.add u, List.nodup_cons.mpr ⟨old, nd⟩, fun d => ?_⟩⟩
      show d ∈ c :: cs ↔ d ∈ _
      rw [tk, List.mem_append, List.mem_singleton, List.mem_cons, mem d]
      exact Or.comm
theorem sub_str_set : isSubtype (.type "str") (.type "set") = pure false := by rw [isSubtype_type]; kernel_rfl
theorem sub_str_froz : isSubtype (.type "str") (.type "frozenset") = pure false := by rw [isSubtype_type]; kernel_rfl
/-- a new set, nothing in it -/
abbrev set0 (w : World) : Obj := sObj "set" (#[], 0, .fresh 0 0 (!w.params.followText "set-order"))
theorem set_init {x : Str} {t : Tok} {A : Around} {R : Result → Shared → Prop} (calm : A.handled = none) (az : Az x.cps.toList) {S : Addr} {s : Shared} (at1 : s.heap.get? S = some (set0 w))
    (q : ∀ h tk, (∀ b o, b ≠ S → s.heap.get? b = some o → h.get? b = some o) → SetAtS P w h S (fun c => c ∈ x.cps.toList) → R (.ok (.ret .none)) { s with heap := h, toks := tk }) :
    wpAny (model P w) A.in1 (Builtin.«set.__init__» ⟨[.ref S, .str x t], []⟩)
      (fun f s' => match f with | .done f => R (.ok f) s' | .again c => c.quiet = true ∧ codeAny (model P w) A c R s') (fun e s' => R (.error e) s') s := by
  have e1 := sub_str_set
  have e2 := sub_str_froz
  have e3 : (Value.type "str" == Value.type "dict") = false := by decide
  have ty : s.TypeIs (.ref S) "set" := ⟨_, at1, rfl⟩
  unfold Builtin.«set.__init__» noKeywords Builtin.Frozenset.updateFrom
  generalize hPI : pyIter = PI
  wp_walk
  subst hPI
  refine wpAny_pyIter_str fun o St W st => ?_
  refine wpAny_bind (wpAny_runValue ?_)
  have lt : S < s.heap.objs.size := Heap.lt_size at1
  refine set_turns (W _ (by simp [calm])).toS S (fun h => Nat.ne_of_lt lt (List.mem_singleton.mp h)) rfl az (x.cps.size - 0) 0 _ rfl (Nat.zero_le _) st
    ⟨(#[], 0, .fresh 0 0 (!w.params.followText "set-order")), [], Heap.get?_push_of_some _ at1, ⟨TxOk.nil rfl, List.Perm.nil, List.Pairwise.nil, ?_⟩, List.nodup_nil, fun c => by simp⟩ fun s2 mv R2 => ?_
  · show _ ∨ (!w.params.followText "set-order") = true
    cases w.params.followText "set-order"
    · exact .inr rfl
    · exact .inl rfl
  · rw [Moved.eq_with mv]
    refine wpAny_pure (wpAny_pure (q _ _ (fun b o hb e => ?_) R2))
    refine mv.heap b o (fun h => ?_) (Heap.get?_push_of_some _ e)
    rcases List.mem_cons.mp h with h | h
    · exact hb h
    · exact absurd (Heap.lt_size e) (by rw [List.mem_singleton.mp h]; exact Nat.lt_irrefl _)
theorem call_setS {x : Str} {t : Tok} {Q : Value → Shared → Prop} (calm : A.handled = none) (az : Az x.cps.toList)
    (q : ∀ h tk, (∀ b o, s.heap.get? b = some o → h.get? b = some o) → SetAtS P w h s.heap.objs.size (fun c => c ∈ x.cps.toList) → Q (.ref s.heap.objs.size) { s with heap := h, toks := tk }) :
    wpAny (model P w) A (call (.type "set") [.str x t]) Q E s := by
  obtain ⟨mc, mt, k1⟩ := F.called_set.mro
  have k2 := F.called_set.made
  have k3 := F.called_set.sub
  have k4 := F.called_set.notType
  have k5 := F.called_set.canCreate
  have k6 := F.typeCall_set_1 (.str x t)
  refine wpAny_call (codeAny_of_tree ?_)
  show wpAny _ _ (callAny (.type "set") _) _ _ _
  refine wpAny_pure ⟨Code.quiet_builtin _ (by decide +kernel), codeAny_builtin F.entry_type_call ?_⟩
  rw [Around.under_plain (weight_type_call_type "set" [.str x t] []) rfl]
  repeat (any_goals (first | assumption | wp_step))
  refine codeAny_mono (code_set_led1 (.str x t) (E := E) (Q₁ := fun ob s1 => ob = .ref s.heap.objs.size ∧ s1 = { s with heap := s.heap.push (set0 w) }) ⟨rfl, rfl⟩) fun r s1 h1 => ?_
  match r, h1 with
  | .error e, h1 => exact h1
  | .ok (.ret ob), h1 =>
    obtain ⟨rfl, rfl⟩ := h1
    have at1 : (s.heap.push (set0 w)).get? s.heap.objs.size = some (set0 w) := Heap.get?_push_size _ rfl
    have ty : Shared.TypeIs { s with heap := s.heap.push (set0 w) } (.ref s.heap.objs.size) "set" := ⟨_, at1, rfl⟩
    have k7 := F.called_set.init.lookup
    have k8 := F.called_set.init.bind (.ref s.heap.objs.size)
    repeat (any_goals (first | assumption | wp_step))
    refine codeAny_mono (codeAny_call_builtin (R := wants (fun r s2 => r = .none ∧ Q (.ref s.heap.objs.size) s2) E) F.called_set.init.plain F.entry_set_init (check_set_init_1 ty ?_)) fun r2 s2 h2 => ?_
    · refine set_init (by simp [calm]) az at1 fun h' tk kept R => ⟨rfl, q h' tk (fun b o e => kept b o (Nat.ne_of_lt (Heap.lt_size e)) (Heap.get?_push_of_some _ e)) R⟩
    · match r2, h2 with
      | .error e, h2 => exact h2
      | .ok (.ret r), h2 =>
        obtain ⟨rfl, h2⟩ := h2
        repeat (any_goals (first | assumption | wp_step))
theorem strs_of {k : KeyKind P w Str} (hk : k = PySem.strKind P w) : ∀ vs : List Value, (∀ v ∈ vs, ∃ y, k.is y v = true) → StrsAre vs (vs.map PyProof.Rows.strOf)
  | [], _ => .nil
  | v :: vs, h => by
    obtain ⟨y, hy⟩ := h v (.head _)
    subst hk
    obtain ⟨t, rfl⟩ := Value.isStrOf_shape hy
    exact .cons y t (strs_of rfl vs fun z hz => h z (.tail _ hz))
theorem call_sortedS {a : Addr} {p : Nat → Prop} {l : List Nat} {Q : Value → Shared → Prop} (calm : A.handled = none) (R : SetAtS P w s.heap a p) (az : Az l) (sub : ∀ c, p c → c ∈ l)
    (q : ∀ (s' : Shared) (b : Addr) (out : Array Value) (c : Nat) (ys : List Str) (cs : List Nat), (∀ d o, s.heap.get? d = some o → s'.heap.get? d = some o) → s'.gens = s.gens → s'.os = s.os → s.heap.objs.size ≤ b → s'.heap.get? b = some (seqObj "list" out c) → StrsAre out.toList ys →
      ys.Perm (cs.map sing) → sortedS ys = true → cs.Nodup → (∀ c, c ∈ cs ↔ p c) → Q (.ref b) s') : wpAny (model P w) A (call (.builtin "sorted") [.ref a]) Q E s := by
  obtain ⟨⟨es, ep, t⟩, cs, at_, pay, nd, mem⟩ := R
  have few : cs.length ≤ 26 := az_few nd az fun d hd => sub d ((mem d).mp hd)
  have ez : es.size = cs.length := by
    have z : es.size = (cs.map sing).length := pay.ok.sz
    rw [z, List.length_map]
  refine call_function_entry kind_sorted plain_sorted entry_sorted (args_sorted1 _) ?_
  unfold Builtin.«sorted»
  refine wpAny_bind (m := checkCount "sorted" 1 1 _) (wpAny_pure ?_)
  refine wpAny_bind (collect_set (A := A.in1) (es := es) (ep := ep) (t := t) calm ⟨_, at_, rfl, rfl⟩ pay.ok.fit (by rw [ez]; exact Nat.lt_of_le_of_lt few (by decide)) pay.ris pay.led fun s1 vs kept grow g1 o1 pm => ?_)
  have vl : vs.length = cs.length := by rw [pm.length_eq, List.length_map, Array.length_toList]; exact ez
  have sa : StrsAre vs (vs.map PyProof.Rows.strOf) := strs_of rfl vs fun v hv => by
    obtain ⟨e, he, rfl⟩ := List.mem_map.mp (pm.mem_iff.mp hv)
    obtain ⟨⟨y, hy, _⟩, _⟩ := pay.ok.el e he
    exact ⟨y, hy⟩
  have pk : (vs.map PyProof.Rows.strOf).Perm (cs.map sing) := (pm.map _).trans (by rw [List.map_map]; exact pay.pm)
  refine wpAny_bind (wpAny_newList ?_ (by rw [vl, sizeLine_eq]; omega))
  have at2 : (s1.heap.push (seqObj "list" vs.toArray 0)).get? s1.heap.objs.size = some (seqObj "list" vs.toArray 0) := Heap.get?_push_size _ rfl
  refine wpAny_bind (wpAny_holding (wpAny_call_entry slot_list_sort ⟨_, at2, rfl⟩ entry_list_sort
    (list_sort_treeK strKind_oneLt (s := { s1 with heap := s1.heap.push (seqObj "list" vs.toArray 0) }) at2 sa.keysOf (fun v₁ v₂ rest e => keyKind_strs (by rw [← e]; exact sa)) (by rw [vl]; omega) fun st' hp hs => ⟨_, rfl, ?_⟩) (args_list_sort _)))
  obtain ⟨ys, y1, y2, y3⟩ := sorted_out_str sa hp hs
  obtain ⟨c, at3⟩ := sortedHeap_at (vs := vs) (out := (arrOf st').map (·.2)) at2
  refine wpAny_pure ⟨_, rfl, q _ _ _ c ys cs (fun d o e => ?_) g1 o1 grow at3 y1 (y2.trans pk) y3 nd mem⟩
  have z := kept d o e
  have lt := Heap.lt_size z
  show (sortedHeap (s1.heap.push (seqObj "list" vs.toArray 0)) s1.heap.objs.size vs _).get? d = some o
  rw [sortedHeap_old (Nat.ne_of_lt lt) (by rw [size_push']; exact Nat.lt_succ_of_lt lt)]
  exact Heap.get?_push_of_some _ z
end
end FD
namespace FD
open PySem PySem.Spec PySem.Calls PySem.Froz PyProof.Rows L2
structure Bi2 (mg : Str → Option Value) : Prop where
  set : mg "set" = none
  sorted : mg "sorted" = none
theorem bSet : bootBuiltins "set" = some (.type "set") := by decide +kernel
theorem bSorted : bootBuiltins "sorted" = some (.builtin "sorted") := by decide +kernel
def setHO (P : Program) (w : World) (a : Addr) (x : Str) : HO := .ext fun h => SetAtS P w h a (fun c => c ∈ x.cps.toList)
/-- what sorted(set(x)) holds -/
def SortOf (x : Str) (ys : List Str) : Prop := ∃ cs : List Nat, ys.Perm (cs.map sing) ∧ sortedS ys = true ∧ cs.Nodup ∧ ∀ c, c ∈ cs ↔ c ∈ x.cps.toList
def rSetS (P : Program) (w : World) : List V → Hp → VK → Prop := fun xs H Q => ∃ x : Str, xs = [.str x] ∧ Az x.cps.toList ∧ ∀ a, H a = none → Q (.ref a) (upd H a (setHO P w a x))
def rSortS (P : Program) (w : World) : List V → Hp → VK → Prop := fun xs H Q => ∃ (a : Addr) (x : Str), xs = [.ref a] ∧ H a = some (setHO P w a x) ∧ Az x.cps.toList ∧
  ∀ ys b, SortOf x ys → H b = none → Q (.ref b) (upd H b (.lst (ys.map V.str)))
def rSortSet (P : Program) (w : World) : List V → Hp → VK → Prop := fun vs H Q => rSetS P w vs H fun v H2 => rSortS P w [v] H2 Q
section
variable {X : Cx}
theorem cl_setS (hc : X.calm = true) : CallR X (.type "set") (rSetS X.prog X.w) := by
  intro pins s σ H xs us Q I r h
  obtain ⟨x, e, az, q⟩ := h
  subst e
  obtain ⟨u, eu, rx⟩ := vals1 r
  subst eu
  obtain ⟨t, rfl⟩ := rx
  refine call_setS (I.ok.hd hc) az fun h' tk kept R => ?_
  refine ⟨.ref s.heap.objs.size, upd H s.heap.objs.size (setHO X.prog X.w s.heap.objs.size x), I.laid kept (Nat.le_refl _) ⟨R, ?_, fun h1 h2 p k => SetAtS.keep p k⟩, rfl, q _ (I.hok.fresh (Nat.le_refl _))⟩
  obtain ⟨D, cs, e, _⟩ := R
  exact ⟨_, e⟩
theorem cl_sortS (hc : X.calm = true) : CallR X (.builtin "sorted") (rSortS X.prog X.w) := by
  intro pins s σ H xs us Q I r h
  obtain ⟨a, x, e, ha, az, q⟩ := h
  subst e
  obtain ⟨u, eu, rx⟩ := vals1 r
  subst eu
  cases rx
  have R : SetAtS X.prog X.w s.heap a (fun c => c ∈ x.cps.toList) := (I.hok a _ ha).1
  refine call_sortedS (I.ok.hd hc) R az (fun c h => h) fun s' b out c ys cs kept g o hb at_ sa pm so nd mem => ?_
  have n : H b = none := I.hok.fresh hb
  have few : cs.length ≤ 26 := az_few nd az fun d hd => (mem d).mp hd
  have sz : (ys.map V.str).length ≤ sizeLine := by
    rw [List.length_map, pm.length_eq, List.length_map]
    exact Nat.le_trans few (by decide)
  have new : ObjOk X.prog X.w (upd H b (.lst (ys.map V.str))) s'.heap b (.lst (ys.map V.str)) := ⟨sz, out.toList, c, vals_of_strs sa, by rw [Array.toArray_toList]; exact at_⟩
  have J : Inv X pins σ (upd H b (.lst (ys.map V.str))) s' := I.call' (ch := []) o (Un.laid kept hb n) (I.hok.laid kept hb new) (by rw [g]; exact I.bare) fun _ z => nomatch z
  exact ⟨.ref b, _, J, rfl, q ys b ⟨cs, pm, so, nd, mem⟩ n⟩
theorem pe_sortSet {e : Expr} {es : List Expr} {ta : TA} {p p2 pos pos2 : Pos} (hc : X.calm = true) (hg : Gl X "sorted") (hm : X.mg "sorted" = none) (hg2 : Gl X "set") (hm2 : X.mg "set" = none) (ha : PA X (e :: es) ta)
    (he : starEach (e :: es) X.env = (false, eval e X.env) :: starEach es X.env) (hp : (backTo pos2 (starEach es X.env)).any (·.1) = false) :
    PE X (.Call (.Name "sorted" p) [.Call (.Name "set" p2) (e :: es) [] pos2] [] pos) (tCB (rSortSet X.prog X.w) ta) :=
  pe_callB (t := tCons (tCB (rSetS X.prog X.w) ta) tNil) (cl_sortS hc) hg hm bSorted (pa_cons (pe_callTy (x := "set") (cl_setS hc) hg2 hm2 bSet ha (by decide) (by decide) he hp) pa_nil) (by decide) (by decide) rfl rfl
end
/-! the same as data -/
theorem rise_sing : ∀ (zs : List Nat) (p : Nat), risingS (sing p) (zs.map sing) = true → (∀ z ∈ zs, p ≤ z) ∧ zs.Pairwise (· ≤ ·)
  | [], _, _ => ⟨(fun _ h => nomatch h), List.Pairwise.nil⟩
  | z :: zs, p, h => by
    have h' : (!ltCps [z] [p] && risingS (sing z) (zs.map sing)) = true := h
    rw [Bool.and_eq_true] at h'
    obtain ⟨i1, i2⟩ := rise_sing zs z h'.2
    have pz : p ≤ z := by
      have := h'.1
      simp [ltCps] at this
      exact this
    refine ⟨fun y hy => ?_, i2.cons i1⟩
    rcases List.mem_cons.mp hy with e | hy
    · rw [e]; exact pz
    · exact Nat.le_trans pz (i1 y hy)
theorem sort_list {x : Str} {ys : List Str} (h : SortOf x ys) : ∃ zs : List Nat, ys = zs.map sing ∧ zs.Pairwise (· < ·) ∧ ∀ c, c ∈ zs ↔ c ∈ x.cps.toList := by
  obtain ⟨cs, pm, so, nd, mem⟩ := h
  have e1 : ∀ y ∈ ys, y = sing (y.cps.getD 0 0) := fun y hy => by
    obtain ⟨c, _, rfl⟩ := List.mem_map.mp (pm.mem_iff.mp hy)
    rfl
  have e2 : ys = (ys.map fun y => y.cps.getD 0 0).map sing := by
    rw [List.map_map]
    conv => lhs; rw [← List.map_id ys]
    exact List.map_congr_left fun y hy => e1 y hy
  have e3 : (ys.map fun y => y.cps.getD 0 0).Perm cs := by
    refine (pm.map _).trans ?_
    rw [List.map_map]
    have : ((fun y : Str => y.cps.getD 0 0) ∘ sing) = id := rfl
    rw [this, List.map_id]
  generalize (ys.map fun y => y.cps.getD 0 0) = zs at e2 e3
  subst e2
  refine ⟨zs, rfl, ?_, fun c => (e3.mem_iff).trans (mem c)⟩
  have le : zs.Pairwise (· ≤ ·) := by
    cases zs with
    | nil => exact .nil
    | cons z zs =>
      obtain ⟨a, b⟩ := rise_sing zs z so
      exact b.cons a
  have ne : zs.Pairwise (· ≠ ·) := e3.nodup_iff.mpr nd
  exact (le.and ne).imp fun h => Nat.lt_of_le_of_ne h.1 h.2
theorem strs_dd (G : Hp) : ∀ l : List Str, DdAll G (l.map V.str) (l.map PyData.str)
  | [] => .nil
  | _ :: l => .cons (.str _) (strs_dd G l)
theorem rc_sortSet {pr : Program} {w : World} {K : PySem.W.Frag} {env : En} {P : PyData → Prop} {x : Str} (az : Az x.cps.toList)
    (p : ∀ zs : List Nat, zs.Pairwise (· < ·) → (∀ c, c ∈ zs ↔ c ∈ x.cps.toList) → P (.list (zs.map fun c => .str ⟨#[c]⟩))) : RC K (rSortSet pr w) env [.str x] P := fun B σ G H xs Q I rx q => by
  obtain ⟨y, rfl, h⟩ := rx.one
  cases h
  refine ⟨x, rfl, az, fun a na => ⟨a, x, rfl, upd_same, az, fun ys b so nb => ?_⟩⟩
  obtain ⟨zs, rfl, ord, mem⟩ := sort_list so
  have n1 := I.exH.fresh na
  have I1 := I.new (o := setHO pr w a x) na
  have n2 := I1.exH.fresh nb
  have e2 : (zs.map sing).map PyData.str = zs.map fun c => PyData.str ⟨#[c]⟩ := by rw [List.map_map]; rfl
  refine q _ _ _ _ (p zs ord mem) ((Ex.new n1).trans (Ex.new n2)) (I1.new nb) (.lst upd_same ?_)
  rw [← e2]
  exact (strs_dd _ _).ex (Ex.new n2)
end FD

set_option Elab.async false
set_option linter.all false
set_option maxRecDepth 100000
set_option maxHeartbeats 2000000
namespace FD
open PySem PySem.Spec PyProof.Rows L2
/-! a, b = x, y of local names -/
section
variable {K : PySem.W.Frag} {env : En} {O : Outs} {i j : Nat}
theorem es_par {ta : TA} (h : EvAs K ta env fun e1 ds => ∃ a b, ds = [a, b] ∧ O.nx ((e1.set i (some (.dat a))).set j (some (.dat b)))) : EvS K (tPar i j ta) env O := fun B σ G H D I a b c d f =>
  h B σ G H _ I fun vs G1 H1 e1 ds p1 x1 I1 r => by
    obtain ⟨u, v, rfl, nx⟩ := p1
    obtain ⟨x, y, rfl, r1, r2⟩ := r.two
    exact ⟨x, y, rfl, a _ G1 _ _ nx x1 ((I1.setD r1).setD r2)⟩
theorem es_parOwn {te : TE} (h : EvE K te env fun e1 d => ∀ p : Addr, O.nx ((e1.set i (some (.dat d))).set j (some (.own p [])))) : EvS K (tPar i j (tCons te (tCons (tLst tNil) tNil))) env O := fun B σ G H D I a b c d f =>
  h B σ G H _ I fun x G1 H1 e1 d1 p1 x1 I1 r => by
    have own := es_own (K := K) (i := j) (env := e1.set i (some (.dat d1))) (O := O) p1
    obtain ⟨z, q⟩ := own B (σ.set i (some x)) G1 H1 D (I1.setD r) (fun σ2 G2 H2 e2 n x2 => a σ2 G2 H2 e2 n (x1.trans x2)) (fun v G2 H2 σ2 e2 f2 p2 x2 => b v G2 H2 σ2 e2 f2 p2 (x1.trans x2)) (fun σ2 G2 H2 e2 p2 x2 => c σ2 G2 H2 e2 p2 (x1.trans x2))
      (fun σ2 G2 H2 e2 p2 x2 => d σ2 G2 H2 e2 p2 (x1.trans x2)) (fun F p σ2 G2 H2 e2 p2 x2 => f F p σ2 G2 H2 e2 p2 (x1.trans x2))
    exact ⟨z, fun p np => ⟨x, .ref p, rfl, q p np⟩⟩
end
theorem ps_parv {X : Cx} {N : List Str} {i j : Nat} {x y : Str} {a b : Expr} {ta : TA} {px py pt pos : Pos} {kt k2 pt2} (hi : N[i]? = some x) (hj : N[j]? = some y) (nd : N.Nodup) (hX : X.N = N) (hc : X.calm = true) (hij : i ≠ j)
    (hx : X.env.scope.names.lookup x = some .local) (hy : X.env.scope.names.lookup y = some .local) (ha : PA X [a, b] ta)
    (hw : swappedStores [.Tuple [.Name x px, .Name y py] kt pt] (.Tuple [a, b] k2 pt2) X.env = pure (some [x, y])) (hs : swapsWithSole [.Tuple [.Name x px, .Name y py] kt pt] (.Tuple [a, b] k2 pt2) pos.line X.env = pure false) :
    PS X (.Assign [.Tuple [.Name x px, .Name y py] kt pt] (.Tuple [a, b] k2 pt2) pos) (tPar i j ta) := by
  subst hX
  exact ps_par hc nd hi hj hij hx hy ha hw hs
end FD

set_option Elab.async false
set_option linter.all false
set_option maxRecDepth 100000
set_option maxHeartbeats 2000000
namespace FD
open PySem PySem.Spec PyProof.Rows L2
/-! lists of one's own that begin with something -/
section
variable {K : PySem.W.Frag} {env : En} {O : Outs} {i : Nat}
theorem EnvOk.own {B : Bs} {G H : Hp} {σ : L2.St} (I : EnvOk K B G H σ env) {p : Addr} {xs : List V} {ds : List PyData} (np : H p = none) (r : DdAll G xs ds) :
    EnvOk K B G (upd H p (.lst xs)) (σ.set i (some (.ref p))) (env.set i (some (.own p ds))) := by
  have I2 : EnvOk K B G (upd H p (.lst xs)) σ env := by
    refine ⟨I.exH.trans (Ex.new np), I.exG, fun q u hq hm => Ex.new np _ _ (I.keep q u hq hm), I.nog, fun q u hq => ?_, I.mus, I.len, fun j s e => ?_, I.mine, I.inj⟩
    · obtain ⟨w, hw⟩ := I.there q u hq
      exact ⟨w, Ex.new np _ _ hw⟩
    · obtain ⟨v, h1, h2⟩ := I.sl j s e
      exact ⟨v, h1, h2.ex (Ex.refl _) (fun q hq => (h2.has hq).2.1) fun q u hq hu => Ex.new np _ _ hu⟩
  have bp : B.H p = none := by
    cases z : B.H p with
    | none => rfl
    | some o => obtain ⟨u, hu⟩ := I.there p o z; rw [np] at hu; cases hu
  refine I2.setO (s := .own p ds) ⟨rfl, I.exH.fresh np, xs, upd_same, r⟩ rfl bp fun j t e z => ?_
  obtain ⟨v, _, h2⟩ := I.sl j t e
  obtain ⟨_, _, o, ho⟩ := h2.has z
  rw [np] at ho; cases ho
theorem es_ownPlus {ta tb : TE} (h : EvE K ta env fun e1 d1 => EvE K tb e1 fun e2 d2 => ∃ xs ys, d1 = .list xs ∧ d2 = .list ys ∧ xs.length + ys.length ≤ sizeLine ∧ ∀ p : Addr, O.nx (e2.set i (some (.own p (xs ++ ys))))) :
    EvS K (tAsg (tOp (rPlus K) ta tb) (gName i)) env O := fun B σ G H D I a b c d f =>
  h B σ G H _ I fun x G1 H1 e1 d1 p1 x1 I1 r1 => p1 B σ G1 H1 _ I1 fun y G2 H2 e2 d2 p2 x2 I2 r2 => by
    obtain ⟨xs, ys, rfl, rfl, hl, nx⟩ := p2
    cases r1 with
    | lst h1 q1 =>
      cases r2 with
      | lst h2 q2 =>
        refine .inr (.inr (.inl ⟨_, _, _, _, rfl, rfl, I2.exH _ _ (x2 _ _ h1), I2.exH _ _ h2, by rw [q1.length, q2.length]; exact hl, fun p np => ?_⟩))
        exact a _ G2 _ _ (nx p) (x1.trans x2) (I2.own np ((q1.ex x2).append q2))
theorem es_ownLst {ta : TA} (h : EvAs K ta env fun e1 ds => ds.length ≤ sizeLine ∧ ∀ p : Addr, O.nx (e1.set i (some (.own p ds)))) : EvS K (tAsg (tLst ta) (gName i)) env O := fun B σ G H D I a b c d f =>
  h B σ G H _ I fun vs G1 H1 e1 ds p1 x1 I1 r => ⟨by rw [r.length]; exact p1.1, fun p np => a _ G1 _ _ (p1.2 p) x1 (I1.own np r)⟩
end
end FD

set_option Elab.async false
set_option linter.all false
set_option maxRecDepth 100000
set_option maxHeartbeats 4000000
namespace FD
open PySem PySem.Spec PyProof.Rows L2
/-! ### a set comprehension: its frame, apart from its loops -/
section
variable {X : Cx}
/-- what the loops of a block owe, from the block's first state on -/
def LoopsOwe (X : Cx) (e tg : Expr) (scope : Scope) (vs : List Nat) (σ : L2.St) (Post : It → Addr → Hp → Prop) (Q : VK) : Prop :=
  ∀ (J : It) (D it C : Addr) (cl : List (Str × Addr)) (fp : List Addr) (tn : Nat → Heap → Prop) (s3 s4 : Shared) (H3 : Hp), Post J D H3 → Turn X.prog X.w X.K tg J fp it tn →
    Inv (X.blk s3 H3 scope (compEnvC scope cl C X.env) fp) [] (wipe σ vs) H3 s4 → tn 0 s4.heap → (∀ b ∈ fp, H3 b = none) →
    codeAny (model X.prog X.w) X.A (.compLoop e 0 (.ref it) (.ref D) (compEnvC scope cl C X.env))
      (fun r s' => match r with
        | .ok _ => ∃ σ' H', Inv (X.blk s3 H3 scope (compEnvC scope cl C X.env) fp) [] σ' H' s' ∧ Q (.ref D) H'
        | .error _ => False) s4
theorem set_frame {pins : List (Addr × Obj)} {s : Shared} {σ : L2.St} {H : Hp} {Q : VK} {elt tg iter : Expr} {ifs : List Expr} {gs : List Comprehension} {scope : Scope} {own : List (Str × Nat)} {pos pos' : Pos} {wi : TI} {Post : It → Addr → Hp → Prop}
    (hc : X.calm = true) (hN : X.N.Nodup) (I : Inv X pins σ H s) (hi : PI X tg iter wi) (ok : BlkOk X.N X.env.scope scope own) (hs : ∀ x, foldedSetIterable iter X.env x = pure x)
    (h : wi σ H fun J H1 => ∀ D, H1 D = none → Post J D (upd H1 D (SetO X.w D (fun _ => false) 0)))
    (loops : LoopsOwe X (.SetComp elt (⟨tg, iter, ifs, 0⟩ :: gs) scope pos) tg scope (own.map (·.2)) σ Post Q) :
    wpAny (model X.prog X.w) X.A (comprehension (.SetComp elt (⟨tg, iter, ifs, 0⟩ :: gs) scope pos) scope X.env pos' (newSet (.type "set")) false (eval iter X.env) none) (EP X pins σ Q) X.xe s := by
  have free : ∀ y ∈ scope.names, y.2 = .free → ∃ c, X.env.cells.lookup y.1 = some c := fun y hy e => (ok.free y hy e).elim (fun k => I.ok.has _ (.inl k)) fun k => I.ok.has _ (.inr k)
  refine wpAny_comprehension_free (use := none) rfl hs (closure_ok free) ok.kind (fun y hy e => by rw [ok.uniq y hy, e]) (thn (hi.run pins s σ H _ I h) fun v s1 r1 => thn r1 fun it0 s2 r2 => ?_)
  obtain ⟨it, fp, tn, J, H2, rfl, I2, T, at0, away, post⟩ := r2
  refine PpSet.newSet_ok (newEnv_comp ?_)
  have fresh : H2 s2.heap.objs.size = none := I2.hok.fresh (Nat.le_refl _)
  have post3 := post _ fresh
  have low : ∀ b ∈ fp, b < s2.heap.objs.size := fun b hb => by
    obtain ⟨o, e, _⟩ := T.obj _ _ at0 b hb
    exact Heap.lt_size e
  generalize hs3 : ({ s2 with heap := s2.heap.push { cls := .type "set", dict := none, data := .set #[] 0 (.fresh 0 0 (!X.w.params.followText "set-order")) } } : Shared) = s3
  have e3 : s3.heap = s2.heap.push { cls := .type "set", dict := none, data := .set #[] 0 (.fresh 0 0 (!X.w.params.followText "set-order")) } := by rw [← hs3]
  have I3 : Inv X pins σ (upd H2 s2.heap.objs.size (SetO X.w s2.heap.objs.size (fun _ => false) 0)) s3 := by
    rw [← hs3]
    exact I2.laid (t' := s2.toks) (fun b o e => Heap.get?_push_of_some _ e) (Nat.le_refl _) (setO_new (setR_fresh X.w))
  have at3 : tn 0 s3.heap := T.keep _ _ _ at0 fun b _ o e => by rw [e3]; exact Heap.get?_push_of_some _ e
  generalize hH3 : upd H2 s2.heap.objs.size (SetO X.w s2.heap.objs.size (fun _ => false) 0) = H3 at I3 post3
  have away3 : ∀ b ∈ fp, FpOk X pins H3 b ∧ b < s3.heap.objs.size := fun b hb => by
    refine ⟨⟨?_, (away b hb).2⟩, by rw [e3, Heap.size_push]; exact Nat.lt_succ_of_lt (low b hb)⟩
    rw [← hH3, upd_ne (Nat.ne_of_lt (low b hb))]
    exact (away b hb).1
  have I4 := block_start I3 ok hN away3
  have at4 : tn 0 (pushCells (s3.heap.push { cls := .type "dict", data := .dict #[] }) scope.names) := T.keep _ _ _ at3 fun b _ o e => pushCells_keeps _ _ _ _ (Heap.get?_push_of_some _ e)
  have loop := loops J s2.heap.objs.size it s3.heap.objs.size _ fp tn s3 _ H3 post3 T I4 at4 fun b hb => (away3 b hb).1.1
  show codeAny _ _ (.compStart (.SetComp elt (⟨tg, iter, ifs, 0⟩ :: gs) scope pos) 0 (.ref it) (.ref s2.heap.objs.size) (compEnvC scope (cellsFrom (s3.heap.objs.size + 1) scope.names (cloFrom X.env.cells scope.names [])) s3.heap.objs.size X.env))
    (compPost (model X.prog X.w) X.A X.xe none (EP X pins σ Q) (.ref s2.heap.objs.size) s3.heap.objs.size) { s3 with heap := pushCells (s3.heap.push { cls := .type "dict", data := .dict #[] }) scope.names }
  generalize hce : compEnvC scope (cellsFrom (s3.heap.objs.size + 1) scope.names (cloFrom X.env.cells scope.names [])) s3.heap.objs.size X.env = ce at loop ⊢
  have cL : ce.locals = s3.heap.objs.size := by subst hce; rfl
  have fin : codeAny (model X.prog X.w) X.A (.compLoop (.SetComp elt (⟨tg, iter, ifs, 0⟩ :: gs) scope pos) 0 (.ref it) (.ref s2.heap.objs.size) ce)
      (compPost (model X.prog X.w) X.A X.xe none (EP X pins σ Q) (.ref s2.heap.objs.size) s3.heap.objs.size) { s3 with heap := pushCells (s3.heap.push { cls := .type "dict", data := .dict #[] }) scope.names } := by
    refine codeAny_mono loop fun r s5 hr => ?_
    cases r with
    | error e => exact hr.elim
    | ok f =>
      obtain ⟨σ5, H5, I5, q⟩ := hr
      have I6 : Inv X pins σ H5 s5 := I3.call' (ch := fp) I5.os I5.base I5.hok I5.bare fun b hb => ⟨(away3 b hb).1.2.2.2.1, (away3 b hb).1.2.1, (away3 b hb).1.2.2.2.2.1, (away3 b hb).1.2.2.2.2.2⟩
      have nC : H5 s3.heap.objs.size = none := by
        have z : H5 ce.locals = none := I5.free
        rwa [cL] at z
      obtain ⟨m, hn, _⟩ := I5.loc
      have hn : s5.heap.Ns ce.locals m := hn
      rw [cL] at hn
      obtain ⟨f0, f1, f2, f3, f4, f5⟩ := I3.fpOk (H' := H5) (Nat.le_refl _) nC
      exact ⟨m, hn, fun h2 sb => ⟨.ref _, H5, I6.turned (t' := s5.toks) (fun b o hb e => (sb.2 b hb).trans e) f0 f1 f3 f4 f5, rfl, q⟩⟩
  exact PpSet.codeAny_compStart_set fin (T.self X.A 0 _ _ _ at4 fin)
end
end FD

set_option Elab.async false
set_option linter.all false
set_option maxRecDepth 100000
set_option maxHeartbeats 4000000
namespace FD
open PySem PySem.Spec PyProof.Rows L2
/-! ### its loops -/
section
variable {X : Cx} {tg : Expr} {ifs : List Expr} {J : It} {fp : List Addr} {it : Addr} {tn : Nat → Heap → Prop} {g : TG} {tt : TT} {i : Nat} {pins : List (Addr × Obj)} {s : Shared} {σ : L2.St} {H : Hp} {E' : Value → Shared → Prop}
/-- one turn: the item, its store, the tests; what was known of the iterator is known behind all that leaves it be -/
theorem turn_once {N : Shared → Prop} {Fin : Bool → Shared → Prop} {Y : L2.St → Prop} {Z : L2.St → Bool → Hp → Prop}
    (T : Turn X.prog X.w X.K tg J fp it tn) (hc : X.calm = true) (hx : X.xe = fun _ _ => False) (I : Inv X pins σ H s) (away : ∀ b ∈ fp, FpOk X pins H b) (at0 : tn i s.heap) (go : J.go i H) (pg : PG X tg g) (pt : PTs X ifs tt)
    (h : ∀ x H', J.yld i H x H' → g x σ H' fun σ2 H2 => Y σ2 ∧ tt σ2 H2 fun b H3 => Z σ2 b H3)
    (cont : ∀ (hp : List (Addr × Obj)) (σ2 : L2.St) (b : Bool) (H3 : Hp) (s3 : Shared), Inv X (pins ++ hp) σ2 H3 s3 → Y σ2 → Z σ2 b H3 →
      (∀ σ' H' s', Inv X (pins ++ hp) σ' H' s' → Inv X pins σ' H' s' ∧ tn (i + 1) s'.heap ∧ ∀ b ∈ fp, H' b = none) → Fin b s3) :
    wpAny (model X.prog X.w) X.A (pyNext (.ref it)) (fun r s₁ => match r with
      | none => N s₁
      | some v => wpAny (model X.prog X.w) X.A (letOwnedTupleGo tg (.ref it) v) (fun _ s₁' => wpAny (model X.prog X.w) X.A (assign tg X.env v) (fun _ s₂ =>
          wpAny (model X.prog X.w) X.A (forIn ifs true fun c r => if r = true then do let ok ← isTrue c X.env (eval c X.env); pure (ForInStep.yield ok) else pure (ForInStep.yield r)) (fun ok s₃ => Fin ok s₃) E' s₂) E' s₁') E' s₁) E' s := by
  refine thnF (T.item X rfl rfl rfl hc i pins s σ H (fun _ _ => False) I away at0 go) fun r s1 ⟨u, hr, h1⟩ => ?_
  subst hr
  refine thnF h1 fun _ s2 ⟨x, H2, I2, rx, y, at2, no2⟩ => ?_
  have I2' := I2.pinned (fun b hb => ⟨no2 b hb, (away b hb).2⟩) (T.obj _ _ at2)
  have r1 := pg.run _ s2 σ H2 x u _ I2' rx (h x H2 y)
  rw [hx] at r1
  refine thnF r1 fun _ s3 ⟨σ3, H3, I3, hy, q3⟩ => ?_
  have r2 := pt.run _ s3 σ3 H3 _ I3 q3
  rw [hx] at r2
  refine thnF r2 fun b s4 ⟨H4, I4, z⟩ => cont _ σ3 b H4 s4 I4 hy z fun σ' H' s' I' => ?_
  have pin : ∀ b ∈ fp, ∀ o, s2.heap.get? b = some o → s'.heap.get? b = some o ∧ H' b = none := fun b hb o e =>
    let z := I'.pin (b, o) (List.mem_append_right _ (List.mem_append_right _ (mem_pinsAt hb e)))
    ⟨z.1, z.2.1⟩
  refine ⟨I'.unpinned, T.keep _ _ _ at2 fun b hb o e => (pin b hb o e).1, fun b hb => ?_⟩
  obtain ⟨o, e, _⟩ := T.obj _ _ at2 b hb
  exact (pin b hb o e).2
end
/-- an int laid into the set at D, then Nx -/
def AddInt (w : World) (D : Addr) (Nx : Hp → Prop) : VK := fun y H => ∃ (k : Int) (S : Int → Bool) (n : Nat), y = V.int k ∧ H D = some (SetO w D S n) ∧ n + 1 < scanBound ∧ Nx (upd H D (SetO w D (fun j => S j || decide (j = k)) (if S k = true then n else n + 1)))
theorem wipe_back {σ σ2 : L2.St} {vs : List Nat} (e : wipe σ2 vs = wipe σ vs) : (wipe σ vs).length = σ2.length ∧ ∀ (j : Nat) v, (wipe σ vs)[j]? = some (some v) → σ2[j]? = some (some v) := by
  refine ⟨by rw [← e, wipe_length], fun j v h => ?_⟩
  rw [← e] at h
  exact (wipe_some h).1
section
variable {X : Cx} {elt tg iter : Expr} {ifs : List Expr} {scope : Scope} {pos : Pos} {g : TG} {tt : TT} {te : TE} {vs : List Nat} {σ : L2.St} {Q : VK}
/-- {elt for tg in iter if ..}: from the new set at D on -/
def OneOwe (w : World) (g : TG) (tt : TT) (te : TE) (vs : List Nat) (σ : L2.St) (Q : VK) (J : It) (D : Addr) (H : Hp) : Prop := ∃ W : Nat → Nat → Hp → Prop, (∃ m, W 0 m H) ∧ ∀ i m H, W i m H →
  (J.stop i H ∧ Q (.ref D) H) ∨ (J.go i H ∧ ∃ Nx : Hp → Prop, (∀ H', Nx H' → ∃ m', m' < m ∧ W (i + 1) m' H') ∧ ∀ x H', J.yld i H x H' → g x (wipe σ vs) H' fun σ2 H2 => wipe σ2 vs = wipe σ vs ∧ tt σ2 H2 fun b H3 =>
    if b = true then te σ2 H3 (AddInt w D Nx) else Nx H3)
theorem exf_ok {s3 : Shared} {H3 : Hp} {ce : Env} {fp : List Addr} {σ' : L2.St} {H' : Hp} {s' : Shared} (I' : Inv (X.blk s3 H3 scope ce fp) [] σ' H' s') (hn : ∀ b ∈ fp, H' b = none) : ∀ b ∈ fp, FpOk (X.blk s3 H3 scope ce fp) [] H' b := fun b hb =>
  ⟨hn b hb, (I'.ok.exf b hb).1, I'.ok.exfs b hb, .inl hb, fun x c e => (I'.ok.exf b hb).2 x c e, fun p hp => absurd (show p ∈ ([] : List (Addr × Obj)) ++ [] from hp) (by simp)⟩
theorem loops_one (hc : X.calm = true)
    (hg : ∀ (s : Shared) (H : Hp) (C : Addr) (cl : List (Str × Addr)) (fp : List Addr), PG (X.blk s H scope (compEnvC scope cl C X.env) fp) tg g) (ht : ∀ (s : Shared) (H : Hp) (C : Addr) (cl : List (Str × Addr)) (fp : List Addr), PTs (X.blk s H scope (compEnvC scope cl C X.env) fp) ifs tt)
    (he : ∀ (s : Shared) (H : Hp) (C : Addr) (cl : List (Str × Addr)) (fp : List Addr), PE (X.blk s H scope (compEnvC scope cl C X.env) fp) elt te) :
    LoopsOwe X (.SetComp elt [⟨tg, iter, ifs, 0⟩] scope pos) tg scope vs σ (OneOwe X.w g tt te vs σ Q) Q := by
  intro J D it C cl fp tn s3 s4 H3 post T I4 at4 no4
  obtain ⟨W, ⟨m0, w0⟩, turn⟩ := post
  have pg := hg s3 H3 C cl fp
  have pt := ht s3 H3 C cl fp
  have pe := he s3 H3 C cl fp
  generalize compEnvC scope cl C X.env = ce at I4 pg pt pe ⊢
  refine PpSet.compLoopS_any (fun n s' => ∃ i H', Inv (X.blk s3 H3 scope ce fp) [] (wipe σ vs) H' s' ∧ tn i s'.heap ∧ (∀ b ∈ fp, H' b = none) ∧ W i n H') ?_ m0 ⟨0, H3, I4, at4, no4, w0⟩
  rintro n s5 ⟨i, H5, I5, at5, no5, w5⟩
  rcases turn i n H5 w5 with ⟨stop, q⟩ | ⟨go, Nx, less, step⟩
  · refine thnF (T.done (X.blk s3 H3 scope ce fp) rfl rfl rfl hc i [] s5 _ H5 (fun _ _ => False) I5 (exf_ok I5 no5) at5 stop) fun r s6 ⟨hr, I6⟩ => ?_
    subst hr
    exact ⟨_, H5, I6, q⟩
  · refine turn_once (X := X.blk s3 H3 scope ce fp) T hc rfl I5 (exf_ok I5 no5) at5 go pg pt step fun hp σ2 b H6 s6 I6 same z back => ?_
    have fin : ∀ {s' : Shared} {H' : Hp}, Inv (X.blk s3 H3 scope ce fp) ([] ++ hp) σ2 H' s' → Nx H' → ∃ m, m < n ∧ ∃ i H', Inv (X.blk s3 H3 scope ce fp) [] (wipe σ vs) H' s' ∧ tn i s'.heap ∧ (∀ b ∈ fp, H' b = none) ∧ W i m H' := fun {s' H'} I' nx => by
      obtain ⟨m', hm, w'⟩ := less H' nx
      obtain ⟨I8, at8, no8⟩ := back _ _ _ I'
      obtain ⟨l1, l2⟩ := wipe_back same
      exact ⟨m', hm, i + 1, H', I8.weak l1 l2, at8, no8, w'⟩
    cases b with
    | false =>
      simp only [Bool.false_eq_true, if_false] at z ⊢
      exact fin I6 z
    | true =>
      simp only [if_true] at z ⊢
      refine thnF (pe.run _ s6 σ2 H6 _ I6 z) fun u s7 ⟨y, H7, I7, r7, k, S, n0, ey, hD, room, nx⟩ => ?_
      subst ey
      exact thnF (mt_sadd (X := X.blk s3 H3 scope ce fp) _ s7 σ2 H7 (.ref D) [.int k] (.ref D) [u] (fun _ H' => Nx H') I7 rfl (.cons r7 .nil) ⟨D, k, S, n0, rfl, rfl, hD, room, nx⟩) fun _ s8 ⟨_, H8, I8, _, nx8⟩ => fin I8 nx8
/-- a set comprehension with one for, of ints -/
theorem pe_sc1 {own : List (Str × Nat)} {wi : TI} (hc : X.calm = true) (hN : X.N.Nodup) (hi : PI X tg iter wi) (ok : BlkOk X.N X.env.scope scope own)
    (hg : ∀ (s : Shared) (H : Hp) (C : Addr) (cl : List (Str × Addr)) (fp : List Addr), PG (X.blk s H scope (compEnvC scope cl C X.env) fp) tg g) (ht : ∀ (s : Shared) (H : Hp) (C : Addr) (cl : List (Str × Addr)) (fp : List Addr), PTs (X.blk s H scope (compEnvC scope cl C X.env) fp) ifs tt)
    (he : ∀ (s : Shared) (H : Hp) (C : Addr) (cl : List (Str × Addr)) (fp : List Addr), PE (X.blk s H scope (compEnvC scope cl C X.env) fp) elt te) (hs : ∀ x, foldedSetIterable iter X.env x = pure x) :
    PE X (.SetComp elt [⟨tg, iter, ifs, 0⟩] scope pos) (fun σ H Q => wi σ H fun J H1 => ∀ D, H1 D = none → OneOwe X.w g tt te (own.map (·.2)) σ Q J D (upd H1 D (SetO X.w D (fun _ => false) 0))) :=
  ⟨fun pins s σ H Q I h => set_frame hc hN I hi ok hs h (loops_one hc hg ht he)⟩
end
end FD

set_option Elab.async false
set_option linter.all false
set_option maxRecDepth 100000
set_option maxHeartbeats 4000000
namespace FD
open PySem PySem.Spec PyProof.Rows L2
/-! ### a set comprehension with two for -/
section
variable {prog : Program} {w : World} {A : Around} {R : Result → Shared → Prop} {s : Shared} {elt t0 i0 t1 i1 : Expr} {f0 f1 : List Expr} {scope : Scope} {pos : Pos} {it acc : Value} {env : Env}
/-- the node -/
abbrev Sc2 (elt t0 i0 : Expr) (f0 : List Expr) (t1 i1 : Expr) (f1 : List Expr) (scope : Scope) (pos : Pos) : Expr := .SetComp elt [⟨t0, i0, f0, 0⟩, ⟨t1, i1, f1, 0⟩] scope pos
theorem outer_turn : compTurn (Sc2 elt t0 i0 f0 t1 i1 f1 scope pos) 0 it acc env = (do
    standAt i0.pos
    match ← pyNext it with
    | none => pure (.done .next)
    | some v =>
      letOwnedTupleGo t0 it v
      assign t0 env v
      let mut ok := true
      for c in f0 do
        if ok then ok ← isTrue c env (eval c env)
      if ok then
        let x ← eval i1 env
        standAt i1.pos
        let x ← foldedSetIterable i1 env x
        let _ ← runOwn (.compStart (Sc2 elt t0 i0 f0 t1 i1 f1 scope pos) 1 (← holding [x] (pyIter x)) acc env) env
      again (.compLoop (Sc2 elt t0 i0 f0 t1 i1 f1 scope pos) 0 it acc env)) := by rfl
theorem inner_turn : compTurn (Sc2 elt t0 i0 f0 t1 i1 f1 scope pos) 1 it acc env = (do
    standAt i1.pos
    match ← pyNext it with
    | none => pure (.done .next)
    | some v =>
      letOwnedTupleGo t1 it v
      assign t1 env v
      let mut ok := true
      for c in f1 do
        if ok then ok ← isTrue c env (eval c env)
      if ok then
        (do let v ← eval elt env; standAt elt.pos; let _ ← call (.builtin "set.add") [acc, v])
      again (.compLoop (Sc2 elt t0 i0 f0 t1 i1 f1 scope pos) 1 it acc env)) := by rfl
/-- an error of a turn -/
abbrev Er (prog : Program) (w : World) (A : Around) (env : Env) (R : Result → Shared → Prop) : Value → Shared → Prop := notedBy (model prog w) A env fun e s' => R (.error e) s'
/-- the tests of a clause -/
abbrev tests (ifs : List Expr) (env : Env) : Sem Bool := forIn ifs true fun c r => if r = true then do let ok ← isTrue c env (eval c env); pure (ForInStep.yield ok) else pure (ForInStep.yield r)
theorem outer_loop (hs : ∀ x, foldedSetIterable i1 env x = pure x) (I : Nat → Shared → Prop)
    (turn : ∀ n s, I n s → wpAny (model prog w) A (pyNext it) (fun r s1 => match r with
      | none => R (.ok .next) s1
      | some v => wpAny (model prog w) A (letOwnedTupleGo t0 it v) (fun _ s2 => wpAny (model prog w) A (assign t0 env v) (fun _ s3 => wpAny (model prog w) A (tests f0 env) (fun ok s4 =>
          if ok = true then wpAny (model prog w) A (eval i1 env) (fun x s5 => wpAny (model prog w) A (pyIter x) (fun it1 s6 =>
            codeAny (model prog w) A (.compStart (Sc2 elt t0 i0 f0 t1 i1 f1 scope pos) 1 it1 acc env) (fun r s' => match r with
              | .ok _ => ∃ m, m < n ∧ I m s'
              | .error _ => False) s6) (Er prog w A env R) s5) (Er prog w A env R) s4
          else ∃ m, m < n ∧ I m s4) (Er prog w A env R) s3) (Er prog w A env R) s2) (Er prog w A env R) s1) (Er prog w A env R) s)
    (n : Nat) (h : I n s) : codeAny (model prog w) A (.compLoop (Sc2 elt t0 i0 f0 t1 i1 f1 scope pos) 0 it acc env) R s := by
  refine codeAny_loop rfl I (fun n s hI => ?_) n h
  show wpAny _ A ((compTurn (Sc2 elt t0 i0 f0 t1 i1 f1 scope pos) 0 it acc env).onRaise (fun x => do noteFrame x env; theTreesLotGoes x)) _ _ s
  refine wpAny_noted ?_
  rw [outer_turn]
  refine wpAny_bind (wpAny_standAt (wpAny_bind (wpAny_mono (turn n s hI) (fun r s1 k1 => ?_) fun _ _ z => z)))
  match r, k1 with
  | none, k1 => exact wpAny_pure k1
  | some v, k1 =>
    refine wpAny_bind (wpAny_mono k1 (fun _ s2 k2 => wpAny_bind (wpAny_mono k2 (fun _ s3 k3 => wpAny_bind (wpAny_mono k3 (fun ok s4 k4 => ?_) fun _ _ z => z)) fun _ _ z => z)) fun _ _ z => z)
    match ok, k4 with
    | false, k4 => exact wpAny_pure ⟨rfl, k4⟩
    | true, k4 =>
      refine wpAny_bind (wpAny_mono k4 (fun x s5 k5 => wpAny_bind (wpAny_standAt (wpAny_bind (wpAny_of_eq (hs x) (wpAny_bind (wpAny_holding (wpAny_mono k5 (fun it1 s6 k6 => ?_) fun _ _ z => z))))))) fun _ _ z => z)
      refine wpAny_bind (wpAny_runOwn ?_)
      rw [Around.mark_none]
      refine codeAny_mono k6 fun r s' hr => ?_
      match r, hr with
      | .ok f, hr => first | exact wpAny_pure ⟨rfl, hr⟩ | exact wpAny_bind (wpAny_pure (wpAny_pure ⟨rfl, hr⟩))
      | .error _, hr => exact hr.elim
theorem inner_loop (I : Nat → Shared → Prop)
    (turn : ∀ n s, I n s → wpAny (model prog w) A (pyNext it) (fun r s1 => match r with
      | none => R (.ok .next) s1
      | some v => wpAny (model prog w) A (letOwnedTupleGo t1 it v) (fun _ s2 => wpAny (model prog w) A (assign t1 env v) (fun _ s3 => wpAny (model prog w) A (tests f1 env) (fun ok s4 =>
          if ok = true then wpAny (model prog w) A (eval elt env) (fun x s5 => wpAny (model prog w) A (call (.builtin "set.add") [acc, x]) (fun _ s6 => ∃ m, m < n ∧ I m s6) (Er prog w A env R) s5) (Er prog w A env R) s4
          else ∃ m, m < n ∧ I m s4) (Er prog w A env R) s3) (Er prog w A env R) s2) (Er prog w A env R) s1) (Er prog w A env R) s)
    (n : Nat) (h : I n s) : codeAny (model prog w) A (.compLoop (Sc2 elt t0 i0 f0 t1 i1 f1 scope pos) 1 it acc env) R s := by
  refine codeAny_loop rfl I (fun n s hI => ?_) n h
  show wpAny _ A ((compTurn (Sc2 elt t0 i0 f0 t1 i1 f1 scope pos) 1 it acc env).onRaise (fun x => do noteFrame x env; theTreesLotGoes x)) _ _ s
  refine wpAny_noted ?_
  rw [inner_turn]
  refine wpAny_bind (wpAny_standAt (wpAny_bind (wpAny_mono (turn n s hI) (fun r s1 k1 => ?_) fun _ _ z => z)))
  match r, k1 with
  | none, k1 => exact wpAny_pure k1
  | some v, k1 =>
    refine wpAny_bind (wpAny_mono k1 (fun _ s2 k2 => wpAny_bind (wpAny_mono k2 (fun _ s3 k3 => wpAny_bind (wpAny_mono k3 (fun ok s4 k4 => ?_) fun _ _ z => z)) fun _ _ z => z)) fun _ _ z => z)
    match ok, k4 with
    | false, k4 => exact wpAny_pure ⟨rfl, k4⟩
    | true, k4 => exact wpAny_bind (wpAny_bind (wpAny_mono k4 (fun x s5 k5 => wpAny_bind (wpAny_standAt (wpAny_bind (wpAny_mono k5 (fun _ s6 k6 => wpAny_pure (wpAny_pure ⟨rfl, k6⟩)) fun _ _ z => z)))) fun _ _ z => z))
theorem inner_start (h0 : codeAny (model prog w) A (.compLoop (Sc2 elt t0 i0 f0 t1 i1 f1 scope pos) 1 it acc env) R s)
    (h : wpAny (model prog w) A (pyIter it) (fun it' s' => codeAny (model prog w) A (.compLoop (Sc2 elt t0 i0 f0 t1 i1 f1 scope pos) 1 it' acc env) R s') (Er prog w A env R) s) :
    codeAny (model prog w) A (.compStart (Sc2 elt t0 i0 f0 t1 i1 f1 scope pos) 1 it acc env) R s := by
  refine codeAny_of_tree ?_
  show wpAny _ _ ((compStart (Sc2 elt t0 i0 f0 t1 i1 f1 scope pos) 1 it acc env).onRaise (fun x => do noteFrame x env; standAt theWindowsPlace)) _ _ s
  refine wpAny_notedAt ?_
  unfold compStart
  show wpAny _ _ (ask >>= _) _ _ s
  refine wpAny_bind (wpAny_askSetting (wpAny_ite ?_))
  split
  · first | exact wpAny_bind (wpAny_pure (wpAny_pure (And.intro rfl h0))) | exact wpAny_pure (And.intro rfl h0)
  · refine wpAny_bind (wpAny_rule ?_)
    first
      | exact wpAny_bind (wpAny_standAt (wpAny_bind (wpAny_mono h (fun it' s' k => wpAny_pure (And.intro rfl k)) fun _ _ z => z)))
      | (show wpAny _ _ (standAt i1.pos >>= _) _ _ s; exact wpAny_bind (wpAny_standAt (wpAny_bind (wpAny_mono h (fun it' s' k => wpAny_pure (And.intro rfl k)) fun _ _ z => z))))
end
section
variable {X : Cx} {elt tg iter tg1 iter1 : Expr} {ifs ifs1 : List Expr} {scope : Scope} {pos : Pos} {wi1 : TI} {g g1 : TG} {tt tt1 : TT} {te : TE} {vs vs1 : List Nat} {σ : L2.St} {Q : VK}
/-- the second clause, from its iterator on -/
def InOwe (w : World) (g1 : TG) (tt1 : TT) (te : TE) (vs1 : List Nat) (σ2 : L2.St) (D : Addr) (Nx : Hp → Prop) (J1 : It) (H4 : Hp) : Prop := ∃ W1 : Nat → Nat → Hp → Prop, (∃ m, W1 0 m H4) ∧ ∀ j k H, W1 j k H →
  (J1.stop j H ∧ Nx H) ∨ (J1.go j H ∧ ∃ Nx1 : Hp → Prop, (∀ H', Nx1 H' → ∃ k', k' < k ∧ W1 (j + 1) k' H') ∧ ∀ x H', J1.yld j H x H' → g1 x (wipe σ2 vs1) H' fun σ3 H5 => wipe σ3 vs1 = wipe σ2 vs1 ∧ tt1 σ3 H5 fun b H6 =>
    if b = true then te σ3 H6 (AddInt w D Nx1) else Nx1 H6)
/-- {elt for tg in iter if .. for tg1 in iter1 if ..}: from the new set at D on -/
def TwoOwe (w : World) (g : TG) (tt : TT) (wi1 : TI) (g1 : TG) (tt1 : TT) (te : TE) (vs vs1 : List Nat) (σ : L2.St) (Q : VK) (J : It) (D : Addr) (H : Hp) : Prop := ∃ W : Nat → Nat → Hp → Prop, (∃ m, W 0 m H) ∧ ∀ i m H, W i m H →
  (J.stop i H ∧ Q (.ref D) H) ∨ (J.go i H ∧ ∃ Nx : Hp → Prop, (∀ H', Nx H' → ∃ m', m' < m ∧ W (i + 1) m' H') ∧ ∀ x H', J.yld i H x H' → g x (wipe σ vs) H' fun σ2 H2 => wipe σ2 vs = wipe σ vs ∧ tt σ2 H2 fun b H3 =>
    if b = true then wi1 σ2 H3 (InOwe w g1 tt1 te vs1 σ2 D Nx) else Nx H3)
theorem loops_two (hc : X.calm = true) (hv : ∀ i ∈ vs1, i ∈ vs)
    (hg : ∀ (s : Shared) (H : Hp) (C : Addr) (cl : List (Str × Addr)) (fp : List Addr), PG (X.blk s H scope (compEnvC scope cl C X.env) fp) tg g) (ht : ∀ (s : Shared) (H : Hp) (C : Addr) (cl : List (Str × Addr)) (fp : List Addr), PTs (X.blk s H scope (compEnvC scope cl C X.env) fp) ifs tt)
    (hi1 : ∀ (s : Shared) (H : Hp) (C : Addr) (cl : List (Str × Addr)) (fp : List Addr), PI (X.blk s H scope (compEnvC scope cl C X.env) fp) tg1 iter1 wi1)
    (hg1 : ∀ (s : Shared) (H : Hp) (C : Addr) (cl : List (Str × Addr)) (fp : List Addr), PG (X.blk s H scope (compEnvC scope cl C X.env) fp) tg1 g1) (ht1 : ∀ (s : Shared) (H : Hp) (C : Addr) (cl : List (Str × Addr)) (fp : List Addr), PTs (X.blk s H scope (compEnvC scope cl C X.env) fp) ifs1 tt1)
    (he : ∀ (s : Shared) (H : Hp) (C : Addr) (cl : List (Str × Addr)) (fp : List Addr), PE (X.blk s H scope (compEnvC scope cl C X.env) fp) elt te) (hs1 : ∀ env x, foldedSetIterable iter1 env x = pure x) :
    LoopsOwe X (Sc2 elt tg iter ifs tg1 iter1 ifs1 scope pos) tg scope vs σ (TwoOwe X.w g tt wi1 g1 tt1 te vs vs1 σ Q) Q := by
  intro J D it C cl fp tn s3 s4 H3 post T I4 at4 no4
  obtain ⟨W, ⟨m0, w0⟩, turn⟩ := post
  have pg := hg s3 H3 C cl fp
  have pt := ht s3 H3 C cl fp
  have pe := he s3 H3 C cl fp
  have pi1 := hi1 s3 H3 C cl fp
  have pg1 := hg1 s3 H3 C cl fp
  have pt1 := ht1 s3 H3 C cl fp
  generalize compEnvC scope cl C X.env = ce at I4 pg pt pe pi1 pg1 pt1 ⊢
  refine outer_loop (hs1 ce) (fun n s' => ∃ i H', Inv (X.blk s3 H3 scope ce fp) [] (wipe σ vs) H' s' ∧ tn i s'.heap ∧ (∀ b ∈ fp, H' b = none) ∧ W i n H') ?_ m0 ⟨0, H3, I4, at4, no4, w0⟩
  rintro n s5 ⟨i, H5, I5, at5, no5, w5⟩
  rcases turn i n H5 w5 with ⟨stop, q⟩ | ⟨go, Nx, less, step⟩
  · refine thnF (T.done (X.blk s3 H3 scope ce fp) rfl rfl rfl hc i [] s5 _ H5 (fun _ _ => False) I5 (exf_ok I5 no5) at5 stop) fun r s6 ⟨hr, I6⟩ => ?_
    subst hr
    exact ⟨_, H5, I6, q⟩
  · refine turn_once (X := X.blk s3 H3 scope ce fp) T hc rfl I5 (exf_ok I5 no5) at5 go pg pt step fun hp σ2 b H6 s6 I6 same z back => ?_
    obtain ⟨l1, l2⟩ := wipe_back same
    have fin : ∀ {σ' : L2.St} {s' : Shared} {H' : Hp}, Inv (X.blk s3 H3 scope ce fp) ([] ++ hp) σ' H' s' → (wipe σ vs).length = σ'.length → (∀ (j : Nat) v, (wipe σ vs)[j]? = some (some v) → σ'[j]? = some (some v)) → Nx H' →
        ∃ m, m < n ∧ ∃ i H', Inv (X.blk s3 H3 scope ce fp) [] (wipe σ vs) H' s' ∧ tn i s'.heap ∧ (∀ b ∈ fp, H' b = none) ∧ W i m H' := fun {σ' s' H'} I' k1 k2 nx => by
      obtain ⟨m', hm, w'⟩ := less H' nx
      obtain ⟨I8, at8, no8⟩ := back _ _ _ I'
      exact ⟨m', hm, i + 1, H', I8.weak k1 k2, at8, no8, w'⟩
    cases b with
    | false =>
      simp only [Bool.false_eq_true, if_false] at z ⊢
      exact fin I6 l1 l2 z
    | true =>
      simp only [if_true] at z ⊢
      refine thnF (pi1.run _ s6 σ2 H6 _ I6 z) fun v s7 k7 => thnF k7 fun it0 s8 k8 => ?_
      obtain ⟨it1, fp1, tn1, J1, H8, rfl, I8, T1, at8, away8, W1, ⟨m1, w1⟩, turn1⟩ := k8
      have l3 : (wipe σ vs).length = (wipe σ2 vs1).length := by rw [wipe_length σ2 vs1]; exact l1
      have l4 : ∀ (j : Nat) v, (wipe σ vs)[j]? = some (some v) → (wipe σ2 vs1)[j]? = some (some v) := fun j v e => by
        rw [← same] at e
        obtain ⟨e1, e2⟩ := wipe_some e
        rw [wipe_out fun k => e2 (hv j k)]
        exact e1
      have loop : codeAny (model X.prog X.w) X.A (.compLoop (Sc2 elt tg iter ifs tg1 iter1 ifs1 scope pos) 1 (.ref it1) (.ref D) ce)
          (fun r s' => match r with
            | .ok _ => ∃ m, m < n ∧ ∃ i H', Inv (X.blk s3 H3 scope ce fp) [] (wipe σ vs) H' s' ∧ tn i s'.heap ∧ (∀ b ∈ fp, H' b = none) ∧ W i m H'
            | .error _ => False) s8 := by
        refine inner_loop (fun k s' => ∃ j H', Inv (X.blk s3 H3 scope ce fp) ([] ++ hp) (wipe σ2 vs1) H' s' ∧ tn1 j s'.heap ∧ (∀ b ∈ fp1, H' b = none) ∧ W1 j k H') ?_ m1 ⟨0, H8, I8.weak (wipe_length _ _) (fun j v e => (wipe_some e).1), at8, fun b hb => (away8 b hb).1, w1⟩
        rintro k s9 ⟨j, H9, I9, at9, no9, w9⟩
        have stat : ∀ b ∈ fp1, FpOk (X.blk s3 H3 scope ce fp) ([] ++ hp) H9 b := fun b hb => ⟨no9 b hb, (away8 b hb).2⟩
        rcases turn1 j k H9 w9 with ⟨stop1, nx⟩ | ⟨go1, Nx1, less1, step1⟩
        · refine thnF (T1.done (X.blk s3 H3 scope ce fp) rfl rfl rfl hc j _ s9 _ H9 (fun _ _ => False) I9 stat at9 stop1) fun r s10 ⟨hr, I10⟩ => ?_
          subst hr
          exact fin I10 l3 l4 nx
        · refine turn_once (X := X.blk s3 H3 scope ce fp) T1 hc rfl I9 stat at9 go1 pg1 pt1 step1 fun hp1 σ3 b1 H10 s10 I10 same1 z1 back1 => ?_
          have fin1 : ∀ {s' : Shared} {H' : Hp}, Inv (X.blk s3 H3 scope ce fp) (([] ++ hp) ++ hp1) σ3 H' s' → Nx1 H' →
              ∃ m, m < k ∧ ∃ j H', Inv (X.blk s3 H3 scope ce fp) ([] ++ hp) (wipe σ2 vs1) H' s' ∧ tn1 j s'.heap ∧ (∀ b ∈ fp1, H' b = none) ∧ W1 j m H' := fun {s' H'} I' nx => by
            obtain ⟨m', hm, w'⟩ := less1 H' nx
            obtain ⟨I11, at11, no11⟩ := back1 _ _ _ I'
            obtain ⟨q1, q2⟩ := wipe_back same1
            exact ⟨m', hm, j + 1, H', I11.weak q1 q2, at11, no11, w'⟩
          cases b1 with
          | false =>
            simp only [Bool.false_eq_true, if_false] at z1 ⊢
            exact fin1 I10 z1
          | true =>
            simp only [if_true] at z1 ⊢
            refine thnF (pe.run _ s10 σ3 H10 _ I10 z1) fun u s11 ⟨y, H11, I11, r11, kk, S, n0, ey, hD, room, nx⟩ => ?_
            subst ey
            exact thnF (mt_sadd (X := X.blk s3 H3 scope ce fp) _ s11 σ3 H11 (.ref D) [.int kk] (.ref D) [u] (fun _ H' => Nx1 H') I11 rfl (.cons r11 .nil) ⟨D, kk, S, n0, rfl, rfl, hD, room, nx⟩) fun _ s12 ⟨_, H12, I12, _, nx12⟩ => fin1 I12 nx12
      exact inner_start loop (T1.self X.A 0 _ _ _ at8 loop)
theorem pe_sc2 {own : List (Str × Nat)} {wi : TI} (hc : X.calm = true) (hN : X.N.Nodup) (hi : PI X tg iter wi) (ok : BlkOk X.N X.env.scope scope own) (hv : ∀ i ∈ vs1, i ∈ own.map (·.2))
    (hg : ∀ (s : Shared) (H : Hp) (C : Addr) (cl : List (Str × Addr)) (fp : List Addr), PG (X.blk s H scope (compEnvC scope cl C X.env) fp) tg g) (ht : ∀ (s : Shared) (H : Hp) (C : Addr) (cl : List (Str × Addr)) (fp : List Addr), PTs (X.blk s H scope (compEnvC scope cl C X.env) fp) ifs tt)
    (hi1 : ∀ (s : Shared) (H : Hp) (C : Addr) (cl : List (Str × Addr)) (fp : List Addr), PI (X.blk s H scope (compEnvC scope cl C X.env) fp) tg1 iter1 wi1)
    (hg1 : ∀ (s : Shared) (H : Hp) (C : Addr) (cl : List (Str × Addr)) (fp : List Addr), PG (X.blk s H scope (compEnvC scope cl C X.env) fp) tg1 g1) (ht1 : ∀ (s : Shared) (H : Hp) (C : Addr) (cl : List (Str × Addr)) (fp : List Addr), PTs (X.blk s H scope (compEnvC scope cl C X.env) fp) ifs1 tt1)
    (he : ∀ (s : Shared) (H : Hp) (C : Addr) (cl : List (Str × Addr)) (fp : List Addr), PE (X.blk s H scope (compEnvC scope cl C X.env) fp) elt te) (hs : ∀ x, foldedSetIterable iter X.env x = pure x) (hs1 : ∀ env x, foldedSetIterable iter1 env x = pure x) :
    PE X (.SetComp elt [⟨tg, iter, ifs, 0⟩, ⟨tg1, iter1, ifs1, 0⟩] scope pos) (fun σ H Q => wi σ H fun J H1 => ∀ D, H1 D = none → TwoOwe X.w g tt wi1 g1 tt1 te (own.map (·.2)) vs1 σ Q J D (upd H1 D (SetO X.w D (fun _ => false) 0))) :=
  ⟨fun pins s σ H Q I h => set_frame hc hN I hi ok hs h (loops_two hc hv hg ht hi1 hg1 ht1 he hs1)⟩
end
end FD

set_option Elab.async false
set_option linter.all false
set_option maxRecDepth 100000
set_option maxHeartbeats 4000000
namespace FD
open PySem PySem.Spec PyProof.Rows L2
/-! ### the meet of two sets of ints -/
theorem entry_set_and : entryFor table "set.__and__" = some Builtin.«frozenset.__and__» := entryFor_alias (id' := "frozenset.__and__") (by kernel_rfl) rfl (by decide +kernel) (by kernel_rfl)
section
variable {P : Program} {w : World} {A : Around} {E : Value → Shared → Prop} {s : Shared}
theorem any_set {a : Addr} {Q : Bool → Shared → Prop} (ty : s.TypeIs (.ref a) "set") (h : Q true s) : wpAny (model P w) A (Builtin.Frozenset.isAnySet (.ref a)) Q E s := by
  unfold Builtin.Frozenset.isAnySet
  exact wpAny_bind (wpAny_isInstance (T := "set") (b := true) ty sub_set_self (wpAny_pure h))
theorem base_set {a : Addr} {Q : Value → Shared → Prop} (ty : s.TypeIs (.ref a) "set") (h : Q (.type "set") s) : wpAny (model P w) A (Builtin.Frozenset.baseOf a) Q E s := by
  unfold Builtin.Frozenset.baseOf
  exact wpAny_bind (wpAny_isInstance (T := "set") (b := true) ty sub_set_self (wpAny_pure h))
theorem entries_at {a : Addr} {o : Obj} {es : Array (Int × Value)} {ep : Nat} {t : SetTable} {Q : Array (Int × Value) → Shared → Prop} (ho : s.heap.get? a = some o) (hd : o.data = .set es ep t) (hf : t.fits es.size = true) (h : Q es s) : wpAny (model P w) A (setEntries a) Q E s := by
  unfold setEntries
  exact wpAny_bind (wpAny_setState_of ho hd hf (wpAny_pure h))
theorem quiet_ints {sets : List Addr} {Q : Bool → Shared → Prop} (hs : ∀ a ∈ sets, ∃ o es ep t, s.heap.get? a = some o ∧ o.data = .set es ep t ∧ t.fits es.size = true ∧ ∀ e ∈ es.toList, GoodE e) (h : Q true s) : wpAny (model P w) A (setsQuiet sets) Q E s := by
  unfold setsQuiet
  refine wpAny_bind (wpAny_mono (wpAny_forIn_list _ (fun rest b s' => s' = s ∧ b = (none, ()) ∧ ∀ a ∈ rest, a ∈ sets) (fun b s' => s' = s ∧ b = (none, ())) (fun a rest b s' hI => ?_) (fun b s' hI => ⟨hI.1, hI.2.1⟩) sets (none, ()) ⟨rfl, rfl, fun _ z => z⟩) (fun b s' hb => ?_) fun _ _ z => z)
  · obtain ⟨rfl, rfl, sub⟩ := hI
    obtain ⟨o, es, ep, t, ho, hd, hf, g⟩ := hs a (sub a List.mem_cons_self)
    refine wpAny_bind (entries_at ho hd hf ?_)
    refine wpAny_bind (wpAny_mono (wpAny_forIn_array' _ (fun rest b s'' => s'' = s' ∧ b = (none, ()) ∧ ∀ e ∈ rest, GoodE e) (fun b s'' => s'' = s' ∧ b = (none, ())) (fun e rest b s'' hJ => ?_) (fun b s'' hJ => ⟨hJ.1, hJ.2.1⟩) es (none, ()) ⟨rfl, rfl, g⟩) (fun b s'' hb => ?_) fun _ _ z => z)
    · obtain ⟨rfl, rfl, gs⟩ := hJ
      obtain ⟨h0, v⟩ := e
      obtain ⟨k, tk, e1, _⟩ := gs (h0, v) List.mem_cons_self
      simp only at e1
      subst e1
      exact wpAny_pure ⟨rfl, rfl, fun e he => gs e (List.mem_cons_of_mem _ he)⟩
    · obtain ⟨rfl, rfl⟩ := hb
      exact wpAny_pure ⟨rfl, rfl, fun a ha => sub a (List.mem_cons_of_mem _ ha)⟩
  · obtain ⟨rfl, rfl⟩ := hb
    exact wpAny_pure h
theorem walk_perm {a : Addr} {o : Obj} {es : Array (Int × Value)} {ep : Nat} {t : SetTable} {Q : Array (Int × Value) → Shared → Prop} (ho : s.heap.get? a = some o) (hd : o.data = .set es ep t) (hf : t.fits es.size = true) (hl : w.params.followText "set-order" = true ∨ t.led = true)
    (h : ∀ es' d, es'.toList.Perm es.toList → Q es' { s with drawn := d }) : wpAny (model P w) A (setWalk a) Q E s := by
  unfold setWalk setsByText
  refine wpAny_bind (wpAny_setState_of ho hd hf ?_)
  dsimp only
  refine wpAny_bind (wpAny_bind (wpAny_askSetting (wpAny_pure ?_)))
  split
  · exact wpAny_bind (wpAny_askSetting (wpAny_pure (h _ s.drawn (pick_perm _ _))))
  · rename_i nt
    have led : t.led = true := hl.resolve_left nt
    split
    · exact wpAny_bind (drawOrder_at _ _ _ _ (by rw [Array.length_toList]; exact Nat.le_refl _) fun ys d hp => wpAny_pure (h _ d (by simpa using hp)))
    · refine wpAny_bind ?_
      wp_delta
      rw [led]
      exact wpAny_pure (wpAny_pure (h es s.drawn (.refl _)))
/-- what a walk of a set that nobody sees gives; the set that is filled stays as it is, but for a mark -/
theorem walk_unseen {a f : Addr} {others : List Addr} {o : Obj} {es : Array (Int × Value)} {ep : Nat} {t : SetTable} {of : Obj} {tf : SetTable} {epf : Nat} {Q : Array (Int × Value) → Shared → Prop} (ho : s.heap.get? a = some o) (hd : o.data = .set es ep t) (hf : t.fits es.size = true)
    (hl : w.params.followText "set-order" = true ∨ t.led = true) (hs : ∀ b ∈ a :: others, ∃ o es ep t, s.heap.get? b = some o ∧ o.data = .set es ep t ∧ t.fits es.size = true ∧ ∀ e ∈ es.toList, GoodE e)
    (hof : s.heap.get? f = some of) (hdf : of.data = .set #[] epf tf) (hff : tf.fits 0 = true)
    (h : ∀ es' d, es'.toList.Perm es.toList → Q es' { s with drawn := d }) (h2 : ∀ t', t'.led = (tf.led && t.led) → t'.place = tf.place → t'.fits 0 = true → Q es { s with heap := s.heap.update f (Obj.putSet #[] t') }) :
    wpAny (model P w) A (setWalkUnseen a others (some f)) Q E s := by
  unfold setWalkUnseen setsByText
  refine wpAny_bind (wpAny_setState_of ho hd hf ?_)
  dsimp only
  refine wpAny_bind (wpAny_bind (wpAny_askSetting (wpAny_pure ?_)))
  split
  · exact walk_perm ho hd hf hl h
  · refine wpAny_bind (quiet_ints hs ?_)
    rw [if_neg (by decide)]
    refine wpAny_bind (wpAny_rule (wpAny_bind (wpAny_setState_of hof hdf hff ?_)))
    dsimp only
    split
    · exact wpAny_bind (wpAny_storeSet_of hof hdf (wpAny_pure (h2 _ rfl rfl hff)) (Nat.zero_le _))
    · exact wpAny_pure (h es s.drawn (.refl _))
theorem slot1_two {M : Model} {x y : Value} {Q : Value × Value → Shared → Prop} (h : Q (x, y) s) : wpAny M A (Builtin.Frozenset.slot1 "__and__" ⟨[x, y], []⟩) Q E s := by
  unfold Builtin.Frozenset.slot1
  wp_walk
  exact h
theorem epoch_at {a : Addr} {o : Obj} {es : Array (Int × Value)} {ep : Nat} {t : SetTable} {Q : Nat → Shared → Prop} (ho : s.heap.get? a = some o) (hd : o.data = .set es ep t) (hf : t.fits es.size = true) (h : Q ep s) : wpAny (model P w) A (setEpoch a) Q E s := by
  unfold setEpoch
  exact wpAny_bind (wpAny_setState_of ho hd hf (wpAny_pure h))
/-- one entry of the walked set: into r if x has it -/
abbrev meetStep (id : String) (x y r : Addr) (was : Nat) : Int × Value → PUnit.{1} → Sem (ForInStep PUnit.{1}) := fun e _ => match e with
  | (h, v) => do
    holding [v] do
      let f ← setFind x v h
      if f.isSome = true then do
        let _ ← setAddHashed r v h
        pure ()
      else pure ()
    Builtin.Frozenset.unchanged id y was
    pure (ForInStep.yield PUnit.unit)
theorem meet_loop {id : String} {x y r : Addr} {S : Int → Bool} {n : Nat} {o : Obj} {es : Array (Int × Value)} {ep : Nat} {t : SetTable} {Q : PUnit.{1} → Shared → Prop} (rx : SetR w s.heap x S n) (ho : s.heap.get? y = some o) (hd : o.data = .set es ep t) (hf : t.fits es.size = true)
    (xr : x ≠ r) (yr : y ≠ r) (rr : SetR w s.heap r (fun _ => false) 0) (es' : Array (Int × Value)) (g : ∀ e ∈ es'.toList, GoodE e) (room : es'.size + 1 < scanBound)
    (q : ∀ h' c, (∀ z o, z ≠ r → s.heap.get? z = some o → h'.get? z = some o) → SetR w h' r (fun k => S k && decide (k ∈ es'.toList.map keyOf)) c → Q PUnit.unit { s with heap := h' }) :
    wpAny (model P w) A (forIn es' PUnit.unit (meetStep id x y r ep)) Q E s := by
  refine wpAny_forIn_array' _ (fun rest _ s' => ∃ h' c seen, s' = { s with heap := h' } ∧ (∀ z o, z ≠ r → s.heap.get? z = some o → h'.get? z = some o) ∧ SetR w h' r (fun k => S k && decide (k ∈ seen)) c ∧ c ≤ seen.length ∧
      seen ++ rest.map keyOf = es'.toList.map keyOf ∧ ∀ e ∈ rest, GoodE e) Q (fun e rest b s' hI => ?_) (fun b s' hI => ?_) es' PUnit.unit ⟨s.heap, 0, [], rfl, fun _ _ _ z => z, rr.congr fun k => by simp, Nat.le_refl _, rfl, g⟩
  · obtain ⟨h1, c, seen, rfl, keep, r1, le, app, gs⟩ := hI
    obtain ⟨hh, v⟩ := e
    obtain ⟨k, tk, e1, e2⟩ := gs (hh, v) List.mem_cons_self
    simp only at e1 e2
    subst e1 e2
    have rx1 : SetR w h1 x S n := rx.at fun o e => keep x o xr e
    have len : seen.length < es'.size := by
      have z := congrArg List.length app
      rw [List.length_append, List.length_map, List.length_map, List.length_cons] at z
      have := Array.length_toList (xs := es')
      omega
    have go : ∀ h2 c2, (∀ z o, z ≠ r → s.heap.get? z = some o → h2.get? z = some o) → SetR w h2 r (fun j => S j && decide (j ∈ seen ++ [k])) c2 → c2 ≤ seen.length + 1 →
        wpAny (model P w) A (do
          Builtin.Frozenset.unchanged id y ep
          pure (ForInStep.yield PUnit.unit)) (fun (rs : ForInStep PUnit.{1}) s' => rs = .yield PUnit.unit ∧ ∃ h' c seen, s' = { s with heap := h' } ∧ (∀ z o, z ≠ r → s.heap.get? z = some o → h'.get? z = some o) ∧ SetR w h' r (fun k => S k && decide (k ∈ seen)) c ∧ c ≤ seen.length ∧
                seen ++ rest.map keyOf = es'.toList.map keyOf ∧ ∀ e ∈ rest, GoodE e) E { s with heap := h2 } := fun h2 c2 k2 r2 l2 => by
      unfold Builtin.Frozenset.unchanged
      refine wpAny_bind (wpAny_bind (epoch_at (s := { s with heap := h2 }) (k2 y o yr ho) hd hf ?_))
      rw [if_neg (by simp)]
      refine wpAny_pure (wpAny_pure ⟨rfl, h2, c2, seen ++ [k], rfl, k2, r2, by rw [List.length_append]; exact l2, ?_, fun e he => gs e (List.mem_cons_of_mem _ he)⟩)
      rw [← app, List.append_assoc]
      rfl
    refine wpAny_bind (wpAny_holding (wpAny_bind (wpAny_setFind_of (s := { s with heap := h1 }) (knd := intKind P w) (k := k) (intKind_is P w k tk) rfl rx1.setOf fun f hf1 => ?_)))
    rw [hf1]
    cases hS : S k with
    | false =>
      rw [if_neg Bool.false_ne_true]
      refine wpAny_pure (wpAny_mono (go h1 c keep (r1.congr fun j => ?_) (by omega)) (fun rs s' h => by obtain ⟨rfl, h⟩ := h; exact h) fun _ _ z => z)
      by_cases z : j = k
      · subst z; rw [hS]; rfl
      · simp [z]
    | true =>
      rw [if_pos rfl]
      refine wpAny_bind (setR_add_hashed (s := { s with heap := h1 }) (tk := tk) r1 (by omega) fun h2 sb r2 => wpAny_pure (wpAny_mono (go h2 _ (fun z o hz e => (sb.2 z hz).trans (keep z o hz e)) (r2.congr fun j => ?_) (by split <;> omega)) (fun rs s' h => by obtain ⟨rfl, h⟩ := h; exact h) fun _ _ z => z))
      by_cases z : j = k
      · subst z; rw [hS]; simp
      · simp [z]
  · obtain ⟨h1, c, seen, rfl, keep, r1, le, app, _⟩ := hI
    rw [List.map_nil, List.append_nil] at app
    subst app
    exact q h1 c keep r1
theorem SetR.look {a : Addr} {S : Int → Bool} {n : Nat} {h : Heap} (R : SetR w h a S n) : ∃ o es ep t, h.get? a = some o ∧ o.data = .set es ep t ∧ t.fits es.size = true ∧ ∀ e ∈ es.toList, GoodE e := by
  obtain ⟨o, es, ep, t, ho, hex, hd, g, nd, hm, hb, hf, _⟩ := R
  exact ⟨o, es, ep, t, ho, hd, hf, g⟩
/-- the walk of y, into the new set at r -/
theorem meet_walk {id : String} {x y r : Addr} {S T : Int → Bool} {n m : Nat} {Q : PUnit.{1} → Shared → Prop} (rx : SetR w s.heap x S n) (ry : SetR w s.heap y T m) (er : s.heap.get? r = some { cls := .type "set", dict := none, data := .set #[] 0 (.fresh 0 0 (!w.params.followText "set-order")) })
    (xr : x ≠ r) (yr : y ≠ r) (hm : m + 1 < scanBound) (q : ∀ h' d c, (∀ z o, z ≠ r → s.heap.get? z = some o → h'.get? z = some o) → SetR w h' r (fun k => S k && T k) c → Q PUnit.unit { s with heap := h', drawn := d }) :
    wpAny (model P w) A (do
      let was ← setEpoch y
      let es ← setWalkUnseen y [x, r] (some r)
      forIn es PUnit.unit (meetStep id x y r was)
      pure ()) Q E s := by
  obtain ⟨o, es, ep, t, ho, hex, hd, g, nd, mem, hb, hf, hn, hr, hl⟩ := ry
  have fresh : SetR w s.heap r (fun _ => false) 0 := (setR_new_at (ns := []) er).congr fun k => by simp
  refine wpAny_bind (epoch_at ho hd hf (wpAny_bind (walk_unseen ho hd hf hl (fun b hb' => ?_) er rfl rfl (fun es' d pm => ?_) fun t' l1 l2 l3 => ?_)))
  · rcases List.mem_cons.mp hb' with rfl | hb'
    · exact ⟨o, es, ep, t, ho, hd, hf, g⟩
    · rcases List.mem_cons.mp hb' with rfl | hb'
      · exact SetR.look rx
      · obtain rfl := List.mem_singleton.mp hb'
        exact SetR.look fresh
  · refine wpAny_bind (meet_loop (s := { s with drawn := d }) rx ho hd hf xr yr fresh es' (fun e he => g e (pm.mem_iff.mp he)) ?_ fun h' c keep r1 => wpAny_pure (q h' d c keep (r1.congr fun k => ?_)))
    · rw [← Array.length_toList, pm.length_eq, Array.length_toList, hn]; exact hm
    · congr 1
      rw [Bool.eq_iff_iff, mem k, decide_eq_true_eq, (pm.map keyOf).mem_iff]
  · have at1 := store_at (es' := #[]) (t' := t') er rfl
    have led : w.params.followText "set-order" = true ∨ t'.led = true := by
      rw [l1]
      cases z : w.params.followText "set-order" with
      | true => exact .inl rfl
      | false =>
        refine .inr ?_
        rw [hl.resolve_left (by rw [z]; exact Bool.false_ne_true), Bool.and_true]
        rfl
    have r0 : SetR w (s.heap.update r (Obj.putSet #[] t')) r (fun _ => false) 0 := ⟨_, #[], _, t', at1, ⟨rfl, rfl, rfl⟩, rfl, (fun e he => by simp at he), (by simp), (fun k => by simp), (by decide), l3, rfl, by rw [l2]; exact List.Pairwise.nil, led⟩
    have kp : ∀ z o, z ≠ r → s.heap.get? z = some o → (s.heap.update r (Obj.putSet #[] t')).get? z = some o := fun z o hz e => (Heap.get?_update_other _ _ (Ne.symm hz)).trans e
    refine wpAny_bind (meet_loop (s := { s with heap := s.heap.update r (Obj.putSet #[] t') }) (rx.at fun o e => kp x o xr e) (kp y o yr ho) hd hf xr yr r0 es g (by rw [hn]; exact hm) fun h' c keep r1 => wpAny_pure (q h' s.drawn c (fun z o hz e => keep z o hz (kp z o hz e)) (r1.congr fun k => ?_)))
    congr 1
    rw [Bool.eq_iff_iff, mem k, decide_eq_true_eq]
theorem size_at {a : Addr} {S : Int → Bool} {n : Nat} {Q : Nat → Shared → Prop} (R : SetR w s.heap a S n) (h : ∀ k, Q k s) : wpAny (model P w) A (Builtin.Frozenset.sizeOf a) Q E s := by
  obtain ⟨o, es, ep, t, ho, hd, hf, g⟩ := SetR.look R
  unfold Builtin.Frozenset.sizeOf
  exact wpAny_bind (entries_at ho hd hf (wpAny_pure (h _)))
theorem set_and {a b : Addr} {S T : Int → Bool} {n m : Nat} {Q : Value → Shared → Prop} (ra : SetR w s.heap a S n) (rb : SetR w s.heap b T m) (hab : b ≠ a) (ha : n + 1 < scanBound) (hb : m + 1 < scanBound)
    (q : ∀ h' d c, (∀ x o, s.heap.get? x = some o → h'.get? x = some o) → SetR w h' s.heap.objs.size (fun k => S k && T k) c → Q (.ref s.heap.objs.size) { s with heap := h', drawn := d }) : wpAny (model P w) A (binaryOp .BitAnd (.ref a) (.ref b)) Q E s := by
  have ta : s.TypeIs (.ref a) "set" := (SetR.setOf (P := P) ra).typeIs
  have tb : s.TypeIs (.ref b) "set" := (SetR.setOf (P := P) rb).typeIs
  refine wpAny_binaryOp_same ta tb F.fills_set_and F.slot_set_and ?_
  refine wpAny_call_entry F.slot_set_and ta entry_set_and ?_ (F.args_set_and_2 _ _)
  have ne : (Value.ref b == Value.ref a) = false := by
    rw [beq_eq_false_iff_ne]; exact fun z => hab (Value.ref.inj z)
  unfold Builtin.«frozenset.__and__»
  wp_delta
  refine wpAny_bind (slot1_two ?_)
  refine wpAny_bind (wpAny_bind (any_set ta ?_))
  refine any_set tb ?_
  show wpAny _ _ (Builtin.Frozenset.intersection _ a (.ref b) >>= fun r => ret r) _ _ _
  refine wpAny_bind ?_
  unfold Builtin.Frozenset.intersection
  rw [if_neg (by rw [ne]; decide)]
  refine wpAny_bind (base_set ta (wpAny_bind (PpSet.newSet_ok ?_)))
  have up : ∀ z o, s.heap.get? z = some o → (s.heap.push { cls := .type "set", dict := none, data := .set #[] 0 (.fresh 0 0 (!w.params.followText "set-order")) }).get? z = some o := fun z o e => Heap.get?_push_of_some _ e
  have er : (s.heap.push { cls := .type "set", dict := none, data := .set #[] 0 (.fresh 0 0 (!w.params.followText "set-order")) }).get? s.heap.objs.size = some { cls := .type "set", dict := none, data := .set #[] 0 (.fresh 0 0 (!w.params.followText "set-order")) } := Heap.get?_push_size _ rfl
  have ra1 := ra.at (h' := s.heap.push { cls := .type "set", dict := none, data := .set #[] 0 (.fresh 0 0 (!w.params.followText "set-order")) }) fun o e => up a o e
  have rb1 := rb.at (h' := s.heap.push { cls := .type "set", dict := none, data := .set #[] 0 (.fresh 0 0 (!w.params.followText "set-order")) }) fun o e => up b o e
  have ar : a ≠ s.heap.objs.size := Nat.ne_of_lt ra.lt
  have br : b ≠ s.heap.objs.size := Nat.ne_of_lt rb.lt
  have off : ∀ z o, s.heap.get? z = some o → z ≠ s.heap.objs.size := fun z o e => Nat.ne_of_lt (Heap.lt_size e)
  generalize s.heap.push { cls := .type "set", dict := none, data := .set #[] 0 (.fresh 0 0 (!w.params.followText "set-order")) } = h1 at up er ra1 rb1 ⊢
  generalize hr : s.heap.objs.size = r at er ar br off q ⊢
  refine wpAny_bind (wpAny_pure ?_)
  refine wpAny_bind (wpAny_holding ?_)
  refine wpAny_bind (any_set (SetR.setOf (P := P) rb1).typeIs ?_)
  rw [if_pos rfl]
  refine wpAny_bind (wpAny_pure ?_)
  refine wpAny_bind (size_at (s := { s with heap := h1 }) rb1 fun k1 => ?_)
  refine wpAny_bind (size_at (s := { s with heap := h1 }) ra1 fun k2 => ?_)
  by_cases z : k1 > k2
  · rw [if_pos z]
    show wpAny _ _ (do let was ← setEpoch a; let es ← setWalkUnseen a [b, r] (some r); forIn es PUnit.unit (meetStep _ b a r was); pure ()) _ _ _
    exact meet_walk (s := { s with heap := h1 }) rb1 ra1 er br ar ha fun h' d c keep r1 => wpAny_pure (wpAny_pure ⟨_, rfl, (fun z => nomatch z), q h' d c (fun z o e => keep z o (off z o e) (up z o e)) (r1.congr fun k => Bool.and_comm ..)⟩)
  · rw [if_neg z]
    show wpAny _ _ (do let was ← setEpoch b; let es ← setWalkUnseen b [a, r] (some r); forIn es PUnit.unit (meetStep _ a b r was); pure ()) _ _ _
    exact meet_walk (s := { s with heap := h1 }) ra1 rb1 er ar br hb fun h' d c keep r1 => wpAny_pure (wpAny_pure ⟨_, rfl, (fun z => nomatch z), q h' d c (fun z o e => keep z o (off z o e) (up z o e)) r1⟩)
end
end FD

set_option Elab.async false
set_option linter.all false
set_option maxRecDepth 100000
set_option maxHeartbeats 4000000
namespace FD
open PySem PySem.Spec PyProof.Rows L2
/-! ### d.setdefault(k, x), the keys tuples -/
def rSetDefT : V → List V → Hp → VK → Prop := fun x xs H Q => ∃ (a : Addr) (kvs : List (List L2.Key × V)) (k : List L2.Key) (b : Addr) (d : V), x = .ref a ∧ xs = [.ref b, d] ∧ H a = some (.dT kvs) ∧ H b = some (.tup (k.map kV)) ∧ kvs.length < sizeLine ∧
  (∀ v, valV kvs k = some v → Q v H) ∧ (valV kvs k = none → Q d (upd H a (.dT (putK kvs k d))))
theorem mt_setDefT {X : Cx} (hu : X.A.units + 1 < cLine) : MtR X "dict.setdefault" rSetDefT := by
  intro pins s σ H x xs v us Q I rx rxs h
  obtain ⟨a, kvs, k, b, d, rfl, rfl, ha, hb, hl, q1, q2⟩ := h
  cases rx
  obtain ⟨u1, u2, rfl, r1, r2⟩ := vals2 rxs
  cases r1
  obtain ⟨z, hd, xs', rel, dd⟩ := dt_of I.hok ha
  have hz : xs'.length ≤ sizeLine := by rw [← Paired.length rel]; exact z
  refine call_setdefault_heap (hsz := hz) (tupleKind_room_in1 hu) (key_of I.hok hb) hd dd (fun p hp => ?_) fun hn h' dd' hs => ?_
  · have r := rel.val k
    rw [hp] at r
    obtain ⟨v0, ev, rv⟩ : ∃ v0, valV kvs k = some v0 ∧ RelV v0 p.2 := by
      cases ev : valV kvs k with
      | none =>
        rw [ev] at r
        exact (show False from r).elim
      | some v0 =>
        rw [ev] at r
        exact ⟨v0, rfl, r⟩
    show EP X pins σ Q p.2 _
    exact ⟨v0, H, I.tok _, rv, q1 v0 ev⟩
  · have r := rel.val k
    rw [hn] at r
    have e : valV kvs k = none := by
      cases ev : valV kvs k with
      | none => rfl
      | some v0 =>
        rw [ev] at r
        exact (show False from r).elim
    have hl2 : (putK kvs k d).length ≤ sizeLine := by have := length_putK kvs k d; omega
    obtain ⟨q, es, ep, hq, h2, h3, h4, _, h5⟩ := dd'
    have I2 : Inv X pins σ (upd H a (.dT (putK kvs k d))) { s with heap := h', toks := s.toks + (tupleKind (mixKind X.prog X.w)).draws k } :=
      d_write I (by rw [ha]; exact True.intro) hs ⟨q, hq⟩ ⟨hl2, hd, _, (rel.put k hb r2).keeps (fun c ys ec => (by rw [upd_ne (ne_of ec ha (fun z => nomatch z))]; exact ec)), q, es, ep, hq, h2, h3, h4, h5⟩
    show EP X pins σ Q u2 _
    exact ⟨d, _, I2, r2, q2 e⟩
theorem km_setDef {X : Cx} {K : PySem.W.Frag} (m : KMark K) (hK : X.K = K) {o e f : Expr} {te : TE} {t : TA} {apos cpos : Pos} (hu : X.A.units + 1 < cLine) (ho : PE X o te) (ha : PA X [e, f] t)
    (h1 : attributeBase o "setdefault" X.env (eval o X.env) = eval o X.env)
    (h2 : ((backTo cpos (starEach [e, f] X.env)).all (fun x => !x.1) && (backToKw cpos (keywordEach [] X.env)).all (fun x => x.1.isSome) && decide (([e, f] : List Expr).length + ([] : List Keyword).length + (if ([] : List Keyword).isEmpty then 0 else 1) < 30)) = true)
    (h3 : (apos.endLine == cpos.line) = true) (h4 : starEach [e, f] X.env = (false, eval e X.env) :: starEach [f] X.env) (h5 : (backTo cpos (starEach [f] X.env)).any (·.1) = false) :
    PE X (.Call (.Attribute o "setdefault" apos) [e, f] [] cpos) (tBM K "dict" rSetDefT te t) := by
  subst hK
  exact pe_bm PySem.F.plainAttrs_dict PySem.F.slot_dict_setdefault PySem.F.type_dict_setdefault (mt_setDefT hu) ho ha h1 h2 h3 h4 h5
/-! ### a table of steps -/
/-- a step's key; what is kept of it -/
def kOf : PyData → List L2.Key
  | .tuple [.int s, .str a, _, _] => [.inl s, .inr a]
  | _ => []
def itOf : PyData → PyData
  | .tuple [_, _, l, t] => .tuple [l, t]
  | _ => .none
def isSt4 : PyData → Bool
  | .tuple [.int _, .str _, _, _] => true
  | _ => false
def rowsAt (steps : List PyData) (k : List L2.Key) : List PyData := (steps.filter fun d => decide (kOf d = k)).map itOf
/-- what stands at a key -/
def CellIn (G : Hp) (c : Option V) (ds : List PyData) : Prop :=
  match c with
  | none => ds = []
  | some v => ∃ q xs, v = .ref q ∧ G q = some (.lst xs) ∧ DdAll G xs ds
def TabIn (steps : List PyData) (G : Hp) (v : V) : Prop := ∃ p kvs, v = .ref p ∧ G p = some (.dT kvs) ∧ ∀ k, CellIn G (valV kvs k) (rowsAt steps k)
theorem TabIn.mono {steps : List PyData} {G G' : Hp} {v : V} (e : Ex G G') (h : TabIn steps G v) : TabIn steps G' v := by
  obtain ⟨p, kvs, rfl, hp, hk⟩ := h
  refine ⟨p, kvs, rfl, e _ _ hp, fun k => ?_⟩
  have := hk k
  revert this
  cases valV kvs k with
  | none => exact id
  | some v =>
    rintro ⟨q, xs, rfl, hq, r⟩
    exact ⟨q, xs, rfl, e _ _ hq, r.ex e⟩
/-- while it is being made: Gc is what stays, H the heap; G0, H0 those of the entry -/
structure TabW (G0 H0 Gc H : Hp) (p : Addr) (steps : List PyData) : Prop where
  exH : Ex Gc H
  ex0 : Ex H0 H
  gp : Gc p = none
  h0p : H0 p = none
  fr : ∀ q o, H0 q = some o → G0 q = none → Gc q = none
  cells : ∃ kvs, H p = some (.dT kvs) ∧ kvs.length ≤ steps.length ∧ (∀ k, match valV kvs k with
    | none => rowsAt steps k = []
    | some v => ∃ q xs, v = .ref q ∧ Gc q = none ∧ H0 q = none ∧ H q = some (.lst xs) ∧ DdAll Gc xs (rowsAt steps k) ∧ xs.length ≤ steps.length) ∧ ∀ k k' v, valV kvs k = some v → valV kvs k' = some v → k = k'
theorem rowsAt_snoc (steps : List PyData) (d : PyData) (k : List L2.Key) : rowsAt (steps ++ [d]) k = rowsAt steps k ++ (if kOf d = k then [itOf d] else []) := by
  unfold rowsAt
  rw [List.filter_append, List.map_append]
  congr 1
  by_cases e : kOf d = k
  · simp [e]
  · simp [e]
section
variable {G0 H0 Gc H : Hp} {p : Addr} {steps : List PyData}
/-- a step whose key is there -/
theorem TabW.old (W : TabW G0 H0 Gc H p steps) {d : PyData} {kvs : List (List L2.Key × V)} {H4 : Hp} {q e : Addr} {xs : List V} {o : HO} (hp : H p = some (.dT kvs)) (x4 : Ex H H4)  (hv : valV kvs (kOf d) = some (.ref q)) (hq : H q = some (.lst xs)) (he : H4 e = none) (rd : Dd (upd Gc e o) (.ref e) (itOf d)) :
    TabW G0 H0 (upd Gc e o) (upd (upd H4 e o) q (.lst (xs ++ [.ref e]))) p (steps ++ [d]) := by
  obtain ⟨kvs', hp', hl, hk, inj⟩ := W.cells
  rw [hp] at hp'; cases hp'
  have hE : H e = none := x4.fresh he
  have gE : Gc e = none := W.exH.fresh hE
  have e0 : H0 e = none := W.ex0.fresh hE
  obtain ⟨q', xs', eq, gq, q0, hq', rq, lq⟩ : ∃ q' xs', V.ref q = .ref q' ∧ Gc q' = none ∧ H0 q' = none ∧ H q' = some (.lst xs') ∧ DdAll Gc xs' (rowsAt steps (kOf d)) ∧ xs'.length ≤ steps.length := by
    have := hk (kOf d); rw [hv] at this; exact this
  cases eq
  rw [hq] at hq'; cases hq'
  have nqe : q ≠ e := ne_of_none hq hE
  have npe : p ≠ e := ne_of_none hp hE
  have npq : p ≠ q := ne_of hp hq (fun z => nomatch z)
  have up : ∀ {z : Addr} {u : HO}, z ≠ q → H z = some u → (upd (upd H4 e o) q (.lst (xs ++ [.ref e]))) z = some u := fun n h => by
    rw [upd_ne n, upd_ne (ne_of_none h hE)]; exact x4 _ _ h
  have xG : Ex Gc (upd Gc e o) := Ex.new gE
  refine ⟨fun z u h => ?_, fun z u h => up (fun w => by rw [w, q0] at h; cases h) (W.ex0 z u h), by rw [upd_ne npe]; exact W.gp, W.h0p, fun z u h g => ?_, kvs, up npq hp, by rw [List.length_append]; exact Nat.le_trans hl (by simp), fun k => ?_, inj⟩
  · by_cases w : z = e
    · subst w
      rw [upd_same] at h; cases h
      rw [upd_ne (Ne.symm nqe), upd_same]
    · rw [upd_ne w] at h
      exact up (fun w2 => by rw [w2, gq] at h; cases h) (W.exH z u h)
  · rw [upd_ne (fun w => by rw [w, e0] at h; cases h)]; exact W.fr z u h g
  · have hk1 := hk k
    rw [rowsAt_snoc]
    cases hvk : valV kvs k with
    | none =>
      rw [hvk] at hk1
      have nk : ¬ kOf d = k := fun w => by rw [w, hvk] at hv; cases hv
      show _ ++ _ = []
      rw [if_neg nk, List.append_nil]; exact hk1
    | some v =>
      rw [hvk] at hk1
      obtain ⟨r, ys, rfl, gr, r0, hr, dr, lr⟩ := hk1
      have nre : r ≠ e := ne_of_none hr hE
      by_cases w : kOf d = k
      · subst w
        rw [hv] at hvk; cases hvk
        rw [hq] at hr; cases hr
        rw [if_pos rfl]
        exact ⟨q, _, rfl, by rw [upd_ne nqe]; exact gq, q0, upd_same, (dr.ex xG).append (.cons rd .nil), by rw [List.length_append, List.length_append]; simpa using lr⟩
      · have nrq : r ≠ q := fun z => w (inj _ _ _ hv (by rw [hvk, z]))
        rw [if_neg w, List.append_nil]
        exact ⟨r, ys, rfl, by rw [upd_ne nre]; exact gr, r0, up nrq hr, dr.ex xG, by rw [List.length_append]; exact Nat.le_trans lr (by simp)⟩
/-- a step whose key is new: its list at c -/
theorem TabW.fresh (W : TabW G0 H0 Gc H p steps) {d : PyData} {kvs : List (List L2.Key × V)} {H4 : Hp} {c e : Addr} {o : HO} (hp : H p = some (.dT kvs)) (x4 : Ex H H4) (hc : H4 c = none)
    (hv : valV kvs (kOf d) = none) (he : H4 e = none) (nce : c ≠ e) (rd : Dd (upd Gc e o) (.ref e) (itOf d)) :
    TabW G0 H0 (upd Gc e o) (upd (upd (upd (upd H4 c (.lst [])) p (.dT (putK kvs (kOf d) (.ref c)))) e o) c (.lst [.ref e])) p (steps ++ [d]) := by
  obtain ⟨kvs', hp', hl, hk, inj⟩ := W.cells
  rw [hp] at hp'; cases hp'
  have hE : H e = none := x4.fresh he
  have hC : H c = none := x4.fresh hc
  have gE : Gc e = none := W.exH.fresh hE
  have gC : Gc c = none := W.exH.fresh hC
  have e0 : H0 e = none := W.ex0.fresh hE
  have c0 : H0 c = none := W.ex0.fresh hC
  have npe : p ≠ e := ne_of_none hp hE
  have npc : p ≠ c := ne_of_none hp hC
  have up : ∀ {z : Addr} {u : HO}, z ≠ p → H z = some u → (upd (upd (upd (upd H4 c (.lst [])) p (.dT (putK kvs (kOf d) (.ref c)))) e o) c (.lst [.ref e])) z = some u := fun n h => by
    rw [upd_ne (ne_of_none h hC), upd_ne (ne_of_none h hE), upd_ne n, upd_ne (ne_of_none h hC)]; exact x4 _ _ h
  have xG : Ex Gc (upd Gc e o) := Ex.new gE
  have old : rowsAt steps (kOf d) = [] := by have := hk (kOf d); rw [hv] at this; exact this
  refine ⟨fun z u h => ?_, fun z u h => up (fun w => by rw [w, W.h0p] at h; cases h) (W.ex0 z u h), by rw [upd_ne npe]; exact W.gp, W.h0p, fun z u h g => ?_, putK kvs (kOf d) (.ref c), ?_, ?_, fun k => ?_, fun k k' v a b => ?_⟩
  · by_cases w : z = e
    · subst w
      rw [upd_same] at h; cases h
      rw [upd_ne (Ne.symm nce), upd_same]
    · rw [upd_ne w] at h
      exact up (fun w2 => by rw [w2, W.gp] at h; cases h) (W.exH z u h)
  · rw [upd_ne (fun w => by rw [w, e0] at h; cases h)]; exact W.fr z u h g
  · rw [upd_ne npc, upd_ne npe, upd_same]
  · have := length_putK kvs (kOf d) (.ref c)
    rw [List.length_append]
    simp only [List.length_cons, List.length_nil]
    omega
  · have hk1 := hk k
    rw [rowsAt_snoc, valV_put]
    by_cases w : k = kOf d
    · subst w
      rw [if_pos rfl, if_pos rfl, old, List.nil_append]
      exact ⟨c, _, rfl, by rw [upd_ne nce]; exact gC, c0, upd_same, .cons rd .nil, by simp⟩
    · rw [if_neg w, if_neg (fun z => w z.symm), List.append_nil]
      cases hvk : valV kvs k with
      | none => rw [hvk] at hk1; exact hk1
      | some v =>
        rw [hvk] at hk1
        obtain ⟨r, ys, rfl, gr, r0, hr, dr, lr⟩ := hk1
        exact ⟨r, ys, rfl, by rw [upd_ne (ne_of_none hr hE)]; exact gr, r0, up (ne_of hr hp (fun z => nomatch z)) hr, dr.ex xG, by rw [List.length_append]; exact Nat.le_trans lr (by simp)⟩
  · rw [valV_put] at a b
    have no : ∀ {j : List L2.Key}, valV kvs j = some (.ref c) → False := fun {j} hj => by
      have := hk j; rw [hj] at this
      obtain ⟨r, ys, er, _, _, hr, _⟩ := this
      cases er
      rw [hC] at hr; cases hr
    by_cases w : k = kOf d
    · rw [if_pos w] at a; cases a
      by_cases w' : k' = kOf d
      · rw [w, w']
      · rw [if_neg w'] at b; exact (no b).elim
    · rw [if_neg w] at a
      by_cases w' : k' = kOf d
      · rw [if_pos w'] at b; cases b; exact (no a).elim
      · rw [if_neg w'] at b; exact inj _ _ _ a b
/-- it is done: from now on it stays -/
theorem TabW.done (W : TabW G0 H0 Gc H p steps) : ∃ G', Ex Gc G' ∧ Ex G' H ∧ TabIn steps G' (.ref p) ∧ ∀ q o, H0 q = some o → G0 q = none → G' q = none := by
  obtain ⟨kvs, hp, hl, hk, inj⟩ := W.cells
  let G' : Hp := fun a => match Gc a with
    | some o => some o
    | none => match H0 a with
      | some _ => none
      | none => H a
  have xG : Ex Gc G' := fun a o h => by show (match Gc a with | some o => some o | none => _) = _; rw [h]
  have new : ∀ a, Gc a = none → H0 a = none → G' a = H a := fun a h1 h2 => by
    show (match Gc a with | some o => some o | none => match H0 a with | some _ => none | none => H a) = _
    rw [h1]; show (match H0 a with | some _ => none | none => H a) = _; rw [h2]
  refine ⟨G', xG, fun a o h => ?_, ⟨p, kvs, rfl, by rw [new p W.gp W.h0p]; exact hp, fun k => ?_⟩, fun q o h g => ?_⟩
  · cases h1 : Gc a with
    | some u => rw [xG a u h1] at h; cases h; exact W.exH a _ h1
    | none =>
      cases h2 : H0 a with
      | none => rw [new a h1 h2] at h; exact h
      | some u =>
        have : G' a = none := by
          show (match Gc a with | some o => some o | none => match H0 a with | some _ => none | none => H a) = _
          rw [h1]; show (match H0 a with | some _ => none | none => H a) = _; rw [h2]
        rw [this] at h; cases h
  · have hk1 := hk k
    revert hk1
    cases valV kvs k with
    | none => exact id
    | some v =>
      rintro ⟨r, ys, rfl, gr, r0, hr, dr, lr⟩
      exact ⟨r, ys, rfl, by rw [new r gr r0]; exact hr, dr.ex xG⟩
  · show (match Gc q with | some o => some o | none => match H0 q with | some _ => none | none => H q) = _
    rw [W.fr q o h g]; show (match H0 q with | some _ => none | none => H q) = _; rw [h]
end
end FD

set_option Elab.async false
set_option linter.all false
set_option maxRecDepth 100000
set_option maxHeartbeats 4000000
namespace FD
open PySem PySem.Spec PyProof.Rows L2
/-! ### expressions that give a list of one's own -/
def OwnAt (G H : Hp) (p : Addr) (ds : List PyData) : Prop := ∃ xs, H p = some (.lst xs) ∧ DdAll G xs ds
abbrev OwnF (ds : List PyData) : Hp → Hp → Addr → Prop := fun G H p => OwnAt G H p ds
section
variable {K : PySem.W.Frag} {env : En} {O : Outs} {i : Nat} {te : TE} {ta : TA} {n : Nat} {pre : List PyData → Prop} {P : En → PyData → Prop}
def EvOwn (K : PySem.W.Frag) (te : TE) (env : En) (P : En → List PyData → Prop) : Prop :=
  ∀ (B : Bs) (σ : L2.St) (G H : Hp) (Q : VK), EnvOk K B G H σ env →
    (∀ p G' H' env' ds, P env' ds → Ex G G' → EnvOk K B G' H' σ env' → G' p = none → OwnAt G' H' p ds → B.H p = none → (∀ (j : Nat) (s : Sl), env'[j]? = some (some s) → s.ad ≠ some p) → Q (.ref p) H') → te σ H Q
theorem EnvOk.fresh {B : Bs} {G H : Hp} {σ : L2.St} (I : EnvOk K B G H σ env) {p : Addr} (np : H p = none) : B.H p = none ∧ ∀ (j : Nat) (s : Sl), env[j]? = some (some s) → s.ad ≠ some p := by
  refine ⟨?_, fun j s e a => ?_⟩
  · cases z : B.H p with
    | none => rfl
    | some o => obtain ⟨u, hu⟩ := I.there p o z; rw [np] at hu; cases hu
  · obtain ⟨v, _, h2⟩ := I.sl j s e
    obtain ⟨_, _, o, ho⟩ := h2.has a
    rw [np] at ho; cases ho
theorem EnvOk.more {B : Bs} {G H : Hp} {σ : L2.St} (I : EnvOk K B G H σ env) {p : Addr} {o : HO} (np : H p = none) : EnvOk K B G (upd H p o) σ env := by
  refine ⟨I.exH.trans (Ex.new np), I.exG, fun q u hq hm => Ex.new np _ _ (I.keep q u hq hm), I.nog, fun q u hq => ?_, I.mus, I.len, fun j s e => ?_, I.mine, I.inj⟩
  · obtain ⟨w, hw⟩ := I.there q u hq
    exact ⟨w, Ex.new np _ _ hw⟩
  · obtain ⟨v, h1, h2⟩ := I.sl j s e
    exact ⟨v, h1, h2.ex (Ex.refl _) (fun q hq => (h2.has hq).2.1) fun q u hq hu => Ex.new np _ _ hu⟩
/-- it is read and stays as it is -/
theorem ev_ownE (h : EvOwn K te env fun e ds => P e (.list ds)) : EvE K te env P := fun B σ G H Q I q =>
  h B σ G H Q I fun p G1 H1 e1 ds p1 x1 I1 g1 ⟨xs, h1, r1⟩ b1 n1 =>
    q _ _ H1 e1 _ p1 (x1.trans (Ex.new g1)) (I1.freeze h1 g1 n1 b1) (.lst upd_same (r1.ex (Ex.new g1)))
theorem es_asgOwn (h : EvOwn K te env fun e ds => ∀ p, O.nx (e.set i (some (.own p ds)))) : EvS K (tAsg te (gName i)) env O := fun B σ G H D I a b c d f =>
  h B σ G H _ I fun p G1 H1 e1 ds p1 x1 I1 g1 ⟨xs, h1, r1⟩ b1 n1 => a _ G1 H1 _ (p1 p) x1 (I1.setO (s := .own p ds) ⟨rfl, g1, xs, h1, r1⟩ rfl b1 n1)
theorem es_retOwn (h : EvOwn K te env fun e ds => O.rn (OwnF ds) e) : EvS K (tRet te) env O := fun B σ G H D I a b c d f =>
  h B σ G H _ I fun p G1 H1 e1 ds p1 x1 I1 g1 w1 b1 n1 => f (OwnF ds) p σ G1 H1 e1 p1 x1 I1 g1 w1 b1
theorem EnvOk.forget' {B : Bs} {G H : Hp} {σ : L2.St} (I : EnvOk K B G H σ env) (i : Nat) : EnvOk K B G H σ (env.set i none) := I.forget i
/-- a variable that holds such a list: it is given away -/
theorem eow_var {p : Addr} {ds : List PyData} {P : En → List PyData → Prop} (h : env[i]? = some (some (.own p ds))) (q : P (env.set i none) ds) : EvOwn K (tVar i) env P := fun B σ G H Q I k => by
  obtain ⟨v, hv, rfl, g, xs, hx, r⟩ := I.sl i _ h
  have bp : B.H p = none := by
    rcases I.mine i _ p h rfl with m | m
    · exact m
    · cases m.2
  refine ⟨_, hv, k p G H _ ds q (Ex.refl G) (I.forget i) g ⟨xs, hx, r⟩ bp fun j s e a => ?_⟩
  by_cases z : i = j
  · subst z
    by_cases q : i < env.length
    · rw [List.getElem?_set_self q] at e; cases e
    · rw [List.getElem?_eq_none (by omega)] at h; cases h
  · rw [List.getElem?_set_ne z] at e; exact z (I.inj _ _ _ _ _ h e rfl a)
/-! ### defs that give one -/
def spO (n : Nat) (pre : List PyData → Prop) (post : List PyData → List PyData → Prop) : Sp := fun vs H Q _ => ∃ (G : Hp) (ds : List PyData), Ex G H ∧ DdAll G vs ds ∧ ds.length = n ∧ pre ds ∧
  ∀ p G' H' es, post ds es → Ex G G' → Ex G' H' → Ex H H' → (∀ q o, H q = some o → G q = none → G' q = none) → H p = none → G' p = none → OwnAt G' H' p es → Q (.ref p) H'
theorem eow_call {post : List PyData → List PyData → Prop} {P : En → List PyData → Prop} (h : EvAs K ta env fun e1 ds => ds.length = n ∧ pre ds ∧ ∀ es, post ds es → P e1 es) : EvOwn K (tCB (callOf (spO n pre post)) ta) env P := fun B σ G H Q I q =>
  h B σ G H _ I fun vs G1 H1 e1 ds p1 x1 I1 r1 => ⟨G1, ds, I1.exH, r1, p1.1, p1.2.1, fun p G2 H2 es pe x2 x3 x4 fr np gp w => by
    have I2 := I1.went x2 x3 x4 fr
    obtain ⟨b, s⟩ := I1.fresh np
    exact q p G2 H2 e1 es (p1.2.2 es pe) (x1.trans x2) I2 gp w b s⟩
/-- a def that gives a thing that nobody changes, told by F -/
def spR (n : Nat) (pre : List PyData → Prop) (F : List PyData → Hp → V → Prop) : Sp := fun vs H Q _ => ∃ (G : Hp) (ds : List PyData), Ex G H ∧ DdAll G vs ds ∧ ds.length = n ∧ pre ds ∧
  ∀ v G' H', F ds G' v → Ex G G' → Ex G' H' → Ex H H' → (∀ q o, H q = some o → G q = none → G' q = none) → Q v H'
theorem EnvOk.setF {B : Bs} {G H : Hp} {σ : L2.St} (h : EnvOk K B G H σ env) {i : Nat} {v : V} {F : Hp → V → Prop} (m : ∀ {G G' : Hp} {v : V}, Ex G G' → F G v → F G' v) (hd : F G v) : EnvOk K B G H (σ.set i (some v)) (env.set i (some (.fro F m))) := by
  have g : ∀ {j : Nat} {t : Sl}, (env.set i (some (.fro F m)))[j]? = some (some t) → (i = j ∧ t = .fro F m) ∨ (i ≠ j ∧ env[j]? = some (some t)) := fun {j t} e => by
    by_cases z : i = j
    · subst z
      by_cases q : i < env.length
      · rw [List.getElem?_set_self q] at e; cases e; exact .inl ⟨rfl, rfl⟩
      · rw [List.set_eq_of_length_le (by omega)] at e
        rw [List.getElem?_eq_none (by omega)] at e; cases e
    · rw [List.getElem?_set_ne z] at e; exact .inr ⟨z, e⟩
  refine ⟨h.exH, h.exG, h.keep, h.nog, h.there, h.mus, by simp [h.len], fun j t e => ?_, fun j t q e ea => ?_, fun j k t u q e1 e2 a1 a2 => ?_⟩
  · rcases g e with ⟨rfl, rfl⟩ | ⟨z, e'⟩
    · refine ⟨v, ?_, hd⟩
      have hl : i < env.length := by
        by_cases q : i < env.length
        · exact q
        · rw [List.set_eq_of_length_le (by omega)] at e
          rw [List.getElem?_eq_none (by omega)] at e; cases e
      rw [List.getElem?_set_self (by rw [h.len]; exact hl)]
    · obtain ⟨u, h1, h2⟩ := h.sl j t e'
      exact ⟨u, by rw [List.getElem?_set_ne z]; exact h1, h2⟩
  · rcases g e with ⟨rfl, rfl⟩ | ⟨z, e'⟩
    · cases ea
    · exact h.mine _ _ _ e' ea
  · rcases g e1 with ⟨rfl, rfl⟩ | ⟨z1, e1'⟩
    · cases a1
    · rcases g e2 with ⟨rfl, rfl⟩ | ⟨z2, e2'⟩
      · cases a2
      · exact h.inj _ _ _ _ _ e1' e2' a1 a2
theorem es_asgR {F : List PyData → Hp → V → Prop} (m : ∀ (ds : List PyData) {G G' : Hp} {v : V}, Ex G G' → F ds G v → F ds G' v) (h : EvAs K ta env fun e1 ds => ds.length = n ∧ pre ds ∧ O.nx (e1.set i (some (.fro (F ds) (m ds))))) :
    EvS K (tAsg (tCB (callOf (spR n pre F)) ta) (gName i)) env O := fun B σ G H D I a b c d f =>
  h B σ G H _ I fun vs G1 H1 e1 ds p1 x1 I1 r1 => ⟨G1, ds, I1.exH, r1, p1.1, p1.2.1, fun v G2 H2 hF x2 x3 x4 fr =>
    a _ G2 H2 _ p1.2.2 (x1.trans x2) ((I1.went x2 x3 x4 fr).setF (F := F ds) (m ds) hF)⟩
/-- its first argument is such a thing -/
def spTO {α : Type} (F : α → Hp → V → Prop) (n : Nat) (pre : α → List PyData → Prop) (post : α → List PyData → List PyData → Prop) : Sp := fun vs H Q _ => ∃ (G : Hp) (x : α) (v : V) (rest : List V) (ds : List PyData), vs = v :: rest ∧ Ex G H ∧ F x G v ∧ DdAll G rest ds ∧ ds.length = n ∧ pre x ds ∧
  ∀ p G' H' es, post x ds es → Ex G G' → Ex G' H' → Ex H H' → (∀ q o, H q = some o → G q = none → G' q = none) → H p = none → G' p = none → OwnAt G' H' p es → Q (.ref p) H'
theorem eow_callT {α : Type} {F : α → Hp → V → Prop} {x : α} {m : ∀ {G G' : Hp} {v : V}, Ex G G' → F x G v → F x G' v} {preT : α → List PyData → Prop} {post : α → List PyData → List PyData → Prop} {P : En → List PyData → Prop} (hi : env[i]? = some (some (.fro (F x) m)))
    (h : EvAs K ta env fun e1 ds => ds.length = n ∧ preT x ds ∧ ∀ es, post x ds es → P e1 es) : EvOwn K (tCB (callOf (spTO F n preT post)) (tCons (tVar i) ta)) env P := fun B σ G H Q I q => by
  obtain ⟨v, hv, hF⟩ := I.sl i _ hi
  refine ⟨v, hv, ?_⟩
  refine h B σ G H _ I fun vs G1 H1 e1 ds p1 x1 I1 r1 => ?_
  refine ⟨G1, x, v, vs, ds, rfl, I1.exH, m x1 hF, r1, p1.1, p1.2.1, fun p G2 H2 es pe x2 x3 x4 fr np gp w => ?_⟩
  have I2 := I1.went x2 x3 x4 fr
  obtain ⟨b, s⟩ := I1.fresh np
  exact q p G2 H2 e1 es (p1.2.2 es pe) (x1.trans x2) I2 gp w b s
end
section
variable {P : Program} {w : World} {K : PySem.W.Frag} {mg : Str → Option Value} {base : Heap} {x qual : Str} {st : Stmt} {f : Addr} {fd : FuncData} {N ps : List Str} {k : Nat}
theorem fnO (F : L2.Fun K x qual st f fd) (S : FnScope N ps (defScope st)) (pre : List PyData → Prop) (post : List PyData → List PyData → Prop)
    (hb : ∀ (cdv : Value) (A : Around) (outer : List PySem.Env) (s : Shared) (H : Hp), A.guards = some [] → Room k (A.deeper (envOfC qual (defScope st) s.heap.objs.size f cdv)) →
      ∃ t, PSs (cxOf CX0 P w K mg base N qual (defScope st) f cdv A outer s H E0).nox (defBody st) t ∧
        ∀ ds : List PyData, ds.length = ps.length → pre ds → EvS K t (stD N.length ds) { nx := fun _ => False, rn := fun F _ => ∃ es, post ds es ∧ F = OwnF es }) : FnG P w K mg base (k + 1) f fd ps (spO ps.length pre post) := by
  refine fnG_of F S (fun vs H Q E ⟨G, ds, _, r, hl, _⟩ => r.length.trans hl) fun cdv A outer s H vs Q hg hr ⟨G, ds, e, r, hl, hp, q⟩ => ?_
  obtain ⟨t, ht, ev⟩ := hb cdv A outer s H hg hr
  refine ⟨t, ht, ev ds hl hp _ _ G H _ (startD e r) (fun _ _ _ _ z => z.elim) (fun _ _ _ _ _ _ z => z.elim) (fun _ _ _ _ z => z.elim) (fun _ _ _ _ z => z.elim) (fun F a σ' G' H' env' hF x' I ga wa ba => ?_)⟩
  obtain ⟨es, hp', rfl⟩ := hF
  exact q a G' H' es hp' x' I.exH (fun a o h => I.keep a o h fun z => z) (fun a o h g => I.nog a o h g) ba ga wa
/-- the entry, where the first argument is a thing told by F -/
theorem startT {α : Type} {Fa : α → Hp → V → Prop} {x : α} (m : ∀ {G G' : Hp} {v : V}, Ex G G' → Fa x G v → Fa x G' v) {G H : Hp} {v : V} {vs : List V} {ds : List PyData} (e : Ex G H) (hF : Fa x G v) (r : DdAll G vs ds) :
    EnvOk K ⟨H, G, fun _ => False⟩ G H (start N (v :: vs)) (some (.fro (Fa x) m) :: stD (N.length - 1) ds) := by
  have hs : ∀ (i : Nat) (s : Sl), (some (Sl.fro (Fa x) m) :: stD (N.length - 1) ds)[i]? = some (some s) → (i = 0 ∧ s = .fro (Fa x) m) ∨ ∃ j d, i = j + 1 ∧ ds[j]? = some d ∧ s = .dat d := fun i s h => by
    cases i with
    | zero => rw [List.getElem?_cons_zero] at h; cases h; exact .inl ⟨rfl, rfl⟩
    | succ j =>
      rw [List.getElem?_cons_succ] at h
      obtain ⟨d, hd, rfl⟩ := stD_get h
      exact .inr ⟨j, d, rfl, hd, rfl⟩
  refine ⟨e, Ex.refl G, fun _ _ a _ => a, fun _ _ _ a => a, fun _ o a => ⟨o, a⟩, fun _ z => z.elim, ?_, fun i s h => ?_, fun i s q h a => ?_, fun i j s t q h1 h2 a1 a2 => ?_⟩
  · rw [start_len, List.length_cons, List.length_cons, stD_len, r.length]; omega
  · rcases hs i s h with ⟨rfl, rfl⟩ | ⟨j, d, rfl, hd, rfl⟩
    · exact ⟨v, rfl, hF⟩
    · obtain ⟨v, hv, rv⟩ := r.get hd
      exact ⟨v, start_get (by rw [List.getElem?_cons_succ]; exact hv), rv⟩
  · rcases hs i s h with ⟨rfl, rfl⟩ | ⟨j, d, rfl, hd, rfl⟩ <;> cases a
  · rcases hs i s h1 with ⟨rfl, rfl⟩ | ⟨_, _, _, _, rfl⟩ <;> cases a1
theorem fnTO {α : Type} {Fa : α → Hp → V → Prop} (m : ∀ (x : α) {G G' : Hp} {v : V}, Ex G G' → Fa x G v → Fa x G' v) (F : L2.Fun K x qual st f fd) (S : FnScope N ps (defScope st)) (hps : ps ≠ []) (pre : α → List PyData → Prop) (post : α → List PyData → List PyData → Prop)
    (hb : ∀ (cdv : Value) (A : Around) (outer : List PySem.Env) (s : Shared) (H : Hp), A.guards = some [] → Room k (A.deeper (envOfC qual (defScope st) s.heap.objs.size f cdv)) →
      ∃ t, PSs (cxOf CX0 P w K mg base N qual (defScope st) f cdv A outer s H E0).nox (defBody st) t ∧
        ∀ (x : α) (ds : List PyData), ds.length = ps.length - 1 → pre x ds → EvS K t (some (.fro (Fa x) (m x)) :: stD (N.length - 1) ds) { nx := fun _ => False, rn := fun F _ => ∃ es, post x ds es ∧ F = OwnF es }) :
    FnG P w K mg base (k + 1) f fd ps (spTO Fa (ps.length - 1) pre post) := by
  refine fnG_of F S (fun vs H Q E ⟨G, x, v, rest, ds, hv, _, _, r, hl, _⟩ => ?_) fun cdv A outer s H vs Q hg hr ⟨G, x, v, rest, ds, hv, e, hF, r, hl, hp, q⟩ => ?_
  · rw [hv, List.length_cons, r.length, hl]
    cases ps with
    | nil => exact absurd rfl hps
    | cons a b => simp
  subst hv
  obtain ⟨t, ht, ev⟩ := hb cdv A outer s H hg hr
  refine ⟨t, ht, ev x ds hl hp _ _ G H _ (startT (m x) e hF r) (fun _ _ _ _ z => z.elim) (fun _ _ _ _ _ _ z => z.elim) (fun _ _ _ _ z => z.elim) (fun _ _ _ _ z => z.elim) (fun F a σ' G' H' env' hF x' I ga wa ba => ?_)⟩
  obtain ⟨es, hp', rfl⟩ := hF
  exact q a G' H' es hp' x' I.exH (fun a o h => I.keep a o h fun z => z) (fun a o h g => I.nog a o h g) ba ga wa
end
end FD

set_option Elab.async false
set_option linter.all false
set_option maxRecDepth 100000
set_option maxHeartbeats 4000000
namespace FD
open PySem PySem.Spec PyProof.Rows L2
/-! ### sorted({elt for x in xs for a, b in ys if t}) -/
def wipeE (env : En) : List Nat → En
  | [] => env
  | v :: vs => (wipeE env vs).set v none
theorem wipe_set {σ : L2.St} {j : Nat} {x : Option V} : ∀ {vs : List Nat}, j ∈ vs → wipe (σ.set j x) vs = wipe σ vs
  | v :: vs, h => by
    show (wipe (σ.set j x) vs).set v none = (wipe σ vs).set v none
    by_cases e : j ∈ vs
    · rw [wipe_set e]
    · have e2 : j = v := by
        rcases List.mem_cons.mp h with z | z
        · exact z
        · exact absurd z e
      subst e2
      have out : ∀ {vs : List Nat}, j ∉ vs → wipe (σ.set j x) vs = (wipe σ vs).set j x := by
        intro vs
        induction vs with
        | nil => intro _; rfl
        | cons u us ih =>
          intro hn
          have h1 : j ≠ u := fun z => hn (by rw [z]; exact List.mem_cons_self)
          have h2 : j ∉ us := fun z => hn (List.mem_cons_of_mem _ z)
          show (wipe (σ.set j x) us).set u none = ((wipe σ us).set u none).set j x
          rw [ih h2, List.set_comm _ _ h1]
      rw [out e, List.set_set]
theorem wipe_sub {σ : L2.St} {vs : List Nat} : ∀ {us : List Nat}, (∀ i ∈ us, i ∈ vs) → wipe (wipe σ us) vs = wipe σ vs
  | [], _ => rfl
  | u :: us, h => by
    show wipe ((wipe σ us).set u none) vs = _
    rw [wipe_set (h u List.mem_cons_self)]
    exact wipe_sub fun i hi => h i (List.mem_cons_of_mem _ hi)
section
variable {K : PySem.W.Frag} {env : En} {B : Bs} {G H : Hp} {σ : L2.St}
theorem EnvOk.wiped (I : EnvOk K B G H σ env) : ∀ vs : List Nat, EnvOk K B G H (wipe σ vs) (wipeE env vs)
  | [] => I
  | v :: vs => (EnvOk.wiped I vs).setN v
theorem EnvOk.rehide {D : Addr} {o o' : HO} (h : EnvOk K ⟨upd B.H D o, B.G, B.mu⟩ G H σ env) (bD : B.H D = none) (mD : ¬ B.mu D) (gB : B.G D = none) :
    EnvOk K ⟨upd B.H D o', B.G, B.mu⟩ G (upd H D o') σ env := by
  obtain ⟨I6, hD, gD, sD⟩ := h.unhide bD mD gB
  refine EnvOk.hide (H := upd H D o') ?_ upd_same gD sD mD
  have up : ∀ {p : Addr} {o : HO}, p ≠ D → H p = some o → (upd H D o') p = some o := fun n e => by rw [upd_ne n]; exact e
  have nq : ∀ {p : Addr} {o : HO}, B.H p = some o → p ≠ D := fun e z => by rw [z, bD] at e; cases e
  exact ⟨fun p o e => up (fun z => by rw [z, gD] at e; cases e) (I6.exH p o e), I6.exG, fun p o e m => up (nq e) (I6.keep p o e m), I6.nog, fun p o e => by obtain ⟨w, hw⟩ := I6.there p o e; exact ⟨w, up (nq e) hw⟩, I6.mus, I6.len,
    fun k s e => by
      obtain ⟨v, h1, h2⟩ := I6.sl k s e
      exact ⟨v, h1, h2.ex (Ex.refl _) (fun p hp => (h2.has hp).2.1) fun p o hp ho => up (fun z => sD k s e (by rw [← z]; exact hp)) ho⟩, I6.mine, I6.inj⟩
theorem EnvOk.unwiped (I : EnvOk K B G H (wipe σ vs) env) (he : ∀ i s, env[i]? = some (some s) → i ∉ vs) : EnvOk K B G H σ env := by
  refine ⟨I.exH, I.exG, I.keep, I.nog, I.there, I.mus, by have := I.len; rw [wipe_length] at this; exact this, fun j s e => ?_, I.mine, I.inj⟩
  obtain ⟨v, h1, h2⟩ := I.sl j s e
  exact ⟨v, (wipe_some h1).1, h2⟩
end
abbrev memS (L : List Int) : Int → Bool := fun k => decide (k ∈ L)
def addL (L : List Int) (k : Int) : List Int := if k ∈ L then L else L ++ [k]
theorem addL_mem {L : List Int} {k j : Int} : j ∈ addL L k ↔ j ∈ L ∨ j = k := by
  unfold addL
  by_cases h : k ∈ L
  · rw [if_pos h]
    exact ⟨.inl, fun z => z.elim id fun e => e ▸ h⟩
  · rw [if_neg h, List.mem_append, List.mem_singleton]
theorem addL_len (L : List Int) (k : Int) : (addL L k).length ≤ L.length + 1 := by
  unfold addL
  by_cases h : k ∈ L
  · rw [if_pos h]; omega
  · rw [if_neg h, List.length_append]; exact Nat.le_refl _
theorem addL_set {w : World} {D : Addr} {L : List Int} {k : Int} : SetO w D (fun j => memS L j || decide (j = k)) (if memS L k = true then L.length else L.length + 1) = SetO w D (memS (addL L k)) (addL L k).length := by
  congr 1
  · funext j
    show (decide _ || decide _) = decide _
    rw [Bool.eq_iff_iff, Bool.or_eq_true, decide_eq_true_eq, decide_eq_true_eq, decide_eq_true_eq, addL_mem]
  · unfold addL
    by_cases h : k ∈ L
    · rw [if_pos h, if_pos (by simpa using h)]
    · rw [if_neg h, if_neg (by simpa using h), List.length_append]; rfl
section
variable {K : PySem.W.Frag} {w : World} {env : En} {wi wi1 : TI} {i j1 j2 : Nat} {vs vs1 : List Nat} {tt1 : TT} {te : TE} {P : En → List PyData → Prop}
abbrev tSc2 (w : World) (wi : TI) (g : TG) (tt : TT) (wi1 : TI) (g1 : TG) (tt1 : TT) (te : TE) (vs vs1 : List Nat) : TE := fun σ H Q => wi σ H fun J H1 => ∀ D, H1 D = none → TwoOwe w g tt wi1 g1 tt1 te vs vs1 σ Q J D (upd H1 D (SetO w D (fun _ => false) 0))
theorem eow_sc2 {xs : List PyData} {rows : PyData → List PyData} {y1 y2 : PyData → PyData} {test : PyData → Bool} {num : PyData → Int} {R : Nat}
    (h0 : EvI K wi env fun e1 ys => e1 = env ∧ ys = xs) (hi : i ∈ vs) (h1 : j1 ∈ vs1) (h2 : j2 ∈ vs1) (hv : ∀ k ∈ vs1, k ∈ vs) (he0 : ∀ i s, env[i]? = some (some s) → i ∉ vs)
    (he : wipeE env vs = env) (hed : ∀ d, wipeE (env.set i (some (.dat d))) vs1 = env.set i (some (.dat d)) ∧ wipeE (env.set i (some (.dat d))) vs = env)
    (hey : ∀ d a b, wipeE (((env.set i (some (.dat d))).set j1 (some (.dat a))).set j2 (some (.dat b))) vs1 = env.set i (some (.dat d)))
    (hin : ∀ d ∈ xs, EvI K wi1 (env.set i (some (.dat d))) fun e1 ys => e1 = env.set i (some (.dat d)) ∧ ys = rows d)
    (hel : ∀ d ∈ xs, ∀ y ∈ rows d, y = .tuple [y1 y, y2 y] ∧ EvB K tt1 (((env.set i (some (.dat d))).set j1 (some (.dat (y1 y)))).set j2 (some (.dat (y2 y)))) fun e b => e = (((env.set i (some (.dat d))).set j1 (some (.dat (y1 y)))).set j2 (some (.dat (y2 y)))) ∧ b = test y ∧
      (b = true → EvE K te e fun e2 v => e2 = e ∧ v = .int (num y)))
    (hR : ∀ d ∈ xs, (rows d).length ≤ R) (hb : xs.length * R < 63)
    (q : ∀ ns : List Int, ns.Pairwise (· < ·) → (∀ k, k ∈ ns ↔ ∃ d ∈ xs, ∃ y ∈ rows d, test y = true ∧ num y = k) → P env (ns.map .int)) :
    EvOwn K (tCB (rSortedSet w) (tCons (tSc2 w wi (gName i) tYes wi1 (gTup K 2 (gCons (gName j1) (gCons (gName j2) gNil))) tt1 te vs vs1) tNil)) env P := fun B σ G H Q I qq => by
  have big : (64 : Nat) < scanBound := by decide
  refine h0 B σ G H _ I fun J G1 H1 e1 ys ⟨p1, p2⟩ x1 I1 j D nD => ?_
  subst p1 p2
  have gD : G1 D = none := I1.exH.fresh nD
  obtain ⟨bD, sD⟩ := I1.fresh nD
  have mD : ¬ B.mu D := fun m => by obtain ⟨o, ho⟩ := I1.mus D m; rw [bD] at ho; cases ho
  have gB : B.G D = none := I1.exG.fresh gD
  have start : EnvOk K ⟨upd B.H D (SetO w D (memS []) ([] : List Int).length), B.G, B.mu⟩ G1 (upd H1 D (SetO w D (fun _ => false) 0)) (wipe σ vs) e1 := by
    have e0 : SetO w D (fun _ => false) 0 = SetO w D (memS []) ([] : List Int).length := by
      congr 1
    rw [← e0]
    have := (I1.more (o := SetO w D (fun _ => false) 0) nD).wiped vs
    rw [he] at this
    exact EnvOk.hide this upd_same gD sD mD
  -- what is in the set
  let Mem := fun (n : Nat) (m : List PyData) (L : List Int) => ∀ k, k ∈ L ↔ (∃ d ∈ ys.take n, ∃ y ∈ rows d, test y = true ∧ num y = k) ∨ ∃ y ∈ m, test y = true ∧ num y = k
  refine ⟨fun n m H2 => m = ys.length - n ∧ n ≤ ys.length ∧ ∃ (G2 : Hp) (L : List Int), Ex G1 G2 ∧ EnvOk K ⟨upd B.H D (SetO w D (memS L) L.length), B.G, B.mu⟩ G2 H2 (wipe σ vs) e1 ∧ Mem n [] L ∧ L.length ≤ n * R,
    ⟨_, rfl, Nat.zero_le _, G1, [], Ex.refl _, start, fun k => by simp, Nat.zero_le _⟩, ?_⟩
  rintro n m H2 ⟨rfl, hn, G2, L, x2, I2, mem, len⟩
  obtain ⟨jg, js⟩ := j G2 H2 x2 I2.exH
  by_cases hlt : n < ys.length
  · obtain ⟨go, yl⟩ := jg n ys[n] (List.getElem?_eq_getElem hlt)
    have hd : ys[n] ∈ ys := List.getElem_mem hlt
    have len2 : n * R + R ≤ ys.length * R := by rw [← Nat.succ_mul]; exact Nat.mul_le_mul_right _ hlt
    refine .inr ⟨go, fun H3 => ∃ (G2 : Hp) (L : List Int), Ex G1 G2 ∧ EnvOk K ⟨upd B.H D (SetO w D (memS L) L.length), B.G, B.mu⟩ G2 H3 (wipe σ vs) e1 ∧ Mem (n + 1) [] L ∧ L.length ≤ (n + 1) * R,
      fun H3 s3 => ⟨ys.length - (n + 1), by omega, rfl, hlt, s3⟩, fun x H3 y => ?_⟩
    obtain ⟨e, r⟩ := yl x H3 y
    subst e
    generalize hdd : ys[n] = d at r hd
    have back : wipe ((wipe σ vs).set i (some x)) vs = wipe σ vs := by rw [wipe_set hi, wipe_sub fun _ z => z]
    show wipe ((wipe σ vs).set i (some x)) vs = wipe σ vs ∧ _
    refine ⟨back, ?_⟩
    delta tYes
    refine iteT ?_
    have I3 : EnvOk K ⟨upd B.H D (SetO w D (memS L) L.length), B.G, B.mu⟩ G2 H3 ((wipe σ vs).set i (some x)) (e1.set i (some (.dat d))) := I2.setD r
    generalize hσ2 : (wipe σ vs).set i (some x) = σ2 at back I3 ⊢
    refine hin d hd _ _ G2 H3 _ I3 fun J1 G4 H4 e4 zs ⟨q1, q2⟩ x4 I4 k1 => ?_
    subst q1 q2
    have I4w := I4.wiped vs1
    rw [(hed d).1] at I4w
    refine ⟨fun l k H5 => k = (rows d).length - l ∧ l ≤ (rows d).length ∧ ∃ (G5 : Hp) (L : List Int), Ex G4 G5 ∧ EnvOk K ⟨upd B.H D (SetO w D (memS L) L.length), B.G, B.mu⟩ G5 H5 (wipe σ2 vs1) (e1.set i (some (.dat d))) ∧ Mem n ((rows d).take l) L ∧ L.length ≤ n * R + l,
      ⟨_, rfl, Nat.zero_le _, G4, L, Ex.refl _, I4w, mem, len⟩, ?_⟩
    rintro l k H5 ⟨rfl, hl, G5, L5, x5, I5, mem5, len5⟩
    obtain ⟨jg1, js1⟩ := k1 G5 H5 x5 I5.exH
    by_cases hlt1 : l < (rows d).length
    · obtain ⟨go1, yl1⟩ := jg1 l (rows d)[l] (List.getElem?_eq_getElem hlt1)
      have hy : (rows d)[l] ∈ rows d := List.getElem_mem hlt1
      have lR := hR d hd
      refine .inr ⟨go1, fun H6 => ∃ (G5 : Hp) (L : List Int), Ex G4 G5 ∧ EnvOk K ⟨upd B.H D (SetO w D (memS L) L.length), B.G, B.mu⟩ G5 H6 (wipe σ2 vs1) (e1.set i (some (.dat d))) ∧ Mem n ((rows d).take (l + 1)) L ∧ L.length ≤ n * R + (l + 1),
        fun H6 s6 => ⟨(rows d).length - (l + 1), by omega, rfl, hlt1, s6⟩, fun x' H6 y' => ?_⟩
      obtain ⟨e', r'⟩ := yl1 x' H6 y'
      subst e'
      have tk : (rows d).take (l + 1) = (rows d).take l ++ [(rows d)[l]] := (List.take_append_getElem hlt1).symm
      rw [tk]
      generalize (rows d)[l] = yd at r' hy
      obtain ⟨hyt, hel1⟩ := hel d hd yd hy
      rw [hyt] at r'
      cases r' with
      | @tup b vsx _ hb' rb =>
        cases rb with
        | cons ra rb =>
          cases rb with
          | @cons v2 _ _ _ rb rn =>
            cases rn
            rename_i v1
            have I6 := (I5.setD (i := j1) ra).setD (i := j2) rb
            refine ⟨_, _, rfl, SqT.of (I5.exH _ _ hb'), rfl, v1, [v2], rfl, v2, [], rfl, rfl, ?_⟩
            have bk1 : wipe (((wipe σ2 vs1).set j1 (some v1)).set j2 (some v2)) vs1 = wipe σ2 vs1 := by rw [wipe_set h2, wipe_set h1, wipe_sub fun _ z => z]
            refine ⟨bk1, ?_⟩
            refine hel1 _ _ G5 H6 _ I6 fun bb G7 H7 e7 ⟨s1, s2, s3⟩ x7 I7 => ?_
            subst s1
            cases bb with
            | false =>
              refine iteF ⟨G7, L5, x5.trans x7, ?_, fun k => ?_, by omega⟩
              · have := I7.wiped vs1
                rw [bk1, hey d] at this
                exact this
              · rw [mem5 k]
                refine or_congr Iff.rfl ⟨fun ⟨y, a, b⟩ => ⟨y, List.mem_append_left _ a, b⟩, fun ⟨y, a, b⟩ => ?_⟩
                rcases List.mem_append.mp a with a | a
                · exact ⟨y, a, b⟩
                · obtain rfl := List.mem_singleton.mp a
                  rw [← s2] at b
                  exact Bool.noConfusion b.1
            | true =>
              refine iteT (s3 rfl _ _ G7 H7 _ I7 fun vv G8 H8 e8 dd ⟨t1, t2⟩ x8 I8 r8 => ?_)
              subst t1 t2
              cases r8
              have hD8 : H8 D = some (SetO w D (memS L5) L5.length) := I8.keep D _ upd_same mD
              refine ⟨num yd, memS L5, L5.length, rfl, hD8, by omega, G8, addL L5 (num yd), (x5.trans x7).trans x8, ?_, fun k => ?_, ?_⟩
              · rw [addL_set]
                have := (I8.rehide (o' := SetO w D (memS (addL L5 (num yd))) (addL L5 (num yd)).length) bD mD gB).wiped vs1
                rw [bk1, hey d] at this
                exact this
              · rw [addL_mem, mem5 k, or_assoc]
                refine or_congr Iff.rfl ⟨fun z => ?_, fun ⟨y, a, b⟩ => ?_⟩
                · rcases z with ⟨y, a, b⟩ | z
                  · exact ⟨y, List.mem_append_left _ a, b⟩
                  · exact ⟨yd, List.mem_append_right _ List.mem_cons_self, s2.symm, z.symm⟩
                · rcases List.mem_append.mp a with a | a
                  · exact .inl ⟨y, a, b⟩
                  · obtain rfl := List.mem_singleton.mp a
                    exact .inr b.2.symm
              · have := addL_len L5 (num yd)
                omega
    · have el : l = (rows d).length := by omega
      subst el
      have lR := hR d hd
      refine .inl ⟨js1, G5, L5, (x2.trans x4).trans x5, ?_, fun k => ?_, ?_⟩
      · have := I5.wiped vs
        rw [(hed d).2, wipe_sub hv, back] at this
        exact this
      · rw [mem5 k, List.take_length]
        have tk : ys.take (n + 1) = ys.take n ++ [d] := by rw [← hdd]; exact (List.take_append_getElem hlt).symm
        rw [tk]
        constructor
        · rintro (⟨d', a, b⟩ | b)
          · exact .inl ⟨d', List.mem_append_left _ a, b⟩
          · exact .inl ⟨d, List.mem_append_right _ List.mem_cons_self, b⟩
        · rintro (⟨d', a, b⟩ | ⟨y, a, _⟩)
          · rcases List.mem_append.mp a with a | a
            · exact .inl ⟨d', a, b⟩
            · obtain rfl := List.mem_singleton.mp a
              exact .inr b
          · exact nomatch a
      · rw [Nat.succ_mul]; omega
  · have e : n = ys.length := by omega
    subst e
    refine .inl ⟨js, ?_⟩
    obtain ⟨I6, hD5, gD5, sD5⟩ := I2.unhide bD mD gB
    have I7 := I6.unwiped he0
    refine ⟨D, memS L, L.length, rfl, hD5, by omega, fun ns p ord hm hl hp => ?_⟩
    have hm' : ∀ k, k ∈ ns ↔ ∃ d ∈ ys, ∃ y ∈ rows d, test y = true ∧ num y = k := fun k => by
      rw [hm k, decide_eq_true_eq, mem k, List.take_length]
      exact ⟨fun z => z.elim id fun z => (by obtain ⟨_, a, _⟩ := z; exact nomatch a), fun z => Or.inl z⟩
    obtain ⟨bp, sp⟩ := I7.fresh hp
    refine qq p G2 _ _ _ (q ns ord hm') (x1.trans x2) (I7.more hp) (I7.exH.fresh hp) ⟨_, upd_same, ?_⟩ bp sp
    clear hm hm' hl ord
    induction ns with
    | nil => exact .nil
    | cons a l ih => exact .cons (.int a) ih
end
end FD

set_option Elab.async false
set_option linter.all false
set_option maxRecDepth 100000
set_option maxHeartbeats 4000000
namespace FD
open PySem PySem.Spec PyProof.Rows L2
/-! ### {x: divmod(time - times[x], grain) for x in times} -/
/-- a dict of texts and ints -/
def isSI : PyData × PyData → Bool
  | (.str _, .int _) => true
  | _ => false
def keyIn (x : Str) (ds : List (PyData × PyData)) : Bool := ds.any fun p => isK x p.1
theorem lkD_in (x : Str) : ∀ ds : List (PyData × PyData), (lkD x ds).isSome = keyIn x ds
  | [] => rfl
  | (k, d) :: r => by
    have ih := lkD_in x r
    cases k with
    | str y =>
      show (if y = x then some d else lkD x r).isSome = (decide (y = x) || keyIn x r)
      by_cases e : y = x
      · rw [if_pos e, decide_eq_true e]; rfl
      · rw [if_neg e, decide_eq_false e, Bool.false_or]; exact ih
    | _ => exact ih
theorem upd_eq {H : Hp} {a : Addr} {o : HO} (h : H a = some o) : upd H a o = H := by
  funext b
  by_cases z : b = a
  · subst z; rw [upd_same, h]
  · rw [upd_ne z]
def agoD (T g : Int) : PyData → PyData
  | .int t => .tuple [.int ((T - t) / g), .int ((T - t) % g)]
  | _ => .none
def rDivmod : List V → Hp → VK → Prop := fun xs H Q => ∃ i j, xs = [.int i, .int j] ∧ CDiv i j ∧ ∀ p, H p = none → Q (.ref p) (upd H p (.tup [.int (i / j), .int (i % j)]))
theorem dd_shape {G : Hp} : ∀ {kvs : List (Key × V)} {ds : List (PyData × PyData)} {i : Nat} {k : Key} {v : V}, DdKv G kvs ds → ds.all isSI = true → kvs[i]? = some (k, v) → ∃ (x : Str) (t : Int), k = .inr x ∧ ds[i]? = some (.str x, .int t)
  | _, _, i, _, _, .nil, _, e => by simp at e
  | _, _, i, k, v, .cons (k := k0) (v := v0) (d := d0) (ds := ds) r t, a, e => by
    rw [List.all_cons, Bool.and_eq_true] at a
    cases i with
    | zero =>
      simp only [List.getElem?_cons_zero, Option.some.injEq, Prod.mk.injEq] at e
      obtain ⟨rfl, rfl⟩ := e
      cases k0 with
      | inl j => exact absurd a.1 Bool.false_ne_true
      | inr x =>
        cases d0 with
        | int t => exact ⟨x, t, rfl, rfl⟩
        | _ => exact absurd a.1 Bool.false_ne_true
    | succ n =>
      rw [List.getElem?_cons_succ] at e ⊢
      exact dd_shape t a.2 e
theorem lkD_int {x : Str} {d : PyData} : ∀ {ds : List (PyData × PyData)}, ds.all isSI = true → lkD x ds = some d → ∃ t, d = .int t
  | [], _, e => by cases e
  | (k, d0) :: r, a, e => by
    rw [List.all_cons, Bool.and_eq_true] at a
    cases k with
    | str y =>
      have e' : (if y = x then some d0 else lkD x r) = some d := e
      by_cases q : y = x
      · rw [if_pos q] at e'; cases e'
        cases d with
        | int t => exact ⟨t, rfl⟩
        | _ => exact absurd a.1 Bool.false_ne_true
      · rw [if_neg q] at e'; exact lkD_int a.2 e'
    | _ => exact absurd a.1 Bool.false_ne_true
section
variable {K : PySem.W.Frag} {env : En} {O : Outs} {it ix im ig ia : Nat} {p : Addr} {ds : List (PyData × PyData)} {T g : Int}
theorem es_agos (hd : env[it]? = some (some (.odc p ds))) (hm : env[im]? = some (some (.dat (.int T)))) (hg : env[ig]? = some (some (.dat (.int g)))) (hx : env[ix]? = some none) (ha : ds.all isSI = true) (hl : ds.length < 1000) (g0 : CDiv 0 g)
    (nx : ∀ ad, (∀ x, lkD x ad = (lkD x ds).map (agoD T g)) → O.nx (env.set ia (some (.dat (.dict ad))))) :
    EvS K (tLock (tAsg (tDc (iKeys (tVar it)) (gName ix) tYes (tVar ix) (tCB rDivmod (tCons (tOp rMinus (tVar im) (tDGet (tVar it) (tVar ix))) (tCons (tVar ig) tNil))) [ix]) (gName ia))) env O := fun B σ G H D I a b c d f => by
  obtain ⟨v0, hv0, rfl, gp, kvs, hk, rk⟩ := I.sl it _ hd
  obtain ⟨vm, hvm, rm⟩ := I.sl im _ hm
  obtain ⟨vg, hvg, rg⟩ := I.sl ig _ hg
  cases rm; cases rg
  have bp : B.H p = none := by
    rcases I.mine it _ p hd rfl with m | m
    · exact m
    · cases m.2
  have nx1 : it ≠ ix := fun z => by rw [z, hx] at hd; cases hd
  have nx2 : im ≠ ix := fun z => by rw [z, hx] at hm; cases hm
  have nx3 : ig ≠ ix := fun z => by rw [z, hx] at hg; cases hg
  have lix : ix < σ.length := by
    rw [I.len]
    rcases Nat.lt_or_ge ix env.length with q | q
    · exact q
    · rw [List.getElem?_eq_none q] at hx; cases hx
  have he : env.set ix none = env := by
    refine List.ext_getElem? fun j => ?_
    by_cases z : ix = j
    · subst z
      rw [List.getElem?_set_self (by rw [← I.len]; exact lix), hx]
    · rw [List.getElem?_set_ne z]
  have lk : kvs.length = ds.length := rk.length
  refine ⟨p, .dK kvs, hk, trivial, fun od => ?_⟩
  refine ⟨_, hv0, p, od, rfl, .inl ⟨kvs, upd_same, fun Da nD => ?_⟩⟩
  have npD : p ≠ Da := ne_of_none upd_same nD
  have nDH : H Da = none := by rw [upd_ne (Ne.symm npD)] at nD; exact nD
  have gD : G Da = none := I.exH.fresh nDH
  obtain ⟨bD, sD⟩ := I.fresh nDH
  have mD : ¬ B.mu Da := fun m => by obtain ⟨o, ho⟩ := I.mus Da m; rw [bD] at ho; cases ho
  have gB : B.G Da = none := I.exG.fresh gD
  -- between two turns: Hu is the heap, the dict not locked
  let St := fun (n : Nat) (Hc : Hp) => n ≤ kvs.length ∧ ∃ (Hu Gc : Hp) (av : List (Key × V)) (ad : List (PyData × PyData)), Hc = upd Hu p (.frz od (.dK kvs)) ∧ Hu p = some (.dK kvs) ∧ Ex G Gc ∧ DdKv Gc av ad ∧ av.length ≤ n ∧
    EnvOk K ⟨upd B.H Da (.dK av), B.G, B.mu⟩ Gc Hu (σ.set ix none) env ∧ ∀ x, lkD x ad = if keyIn x (ds.take n) = true then (lkD x ds).map (agoD T g) else none
  refine ⟨fun n m Hc => m = kvs.length - n ∧ St n Hc, ⟨_, rfl, Nat.zero_le _, upd H Da (.dK []), G, [], [], ?_, ?_, Ex.refl _, .nil, Nat.le_refl _, ?_, fun x => ?_⟩, ?_⟩
  · funext z
    by_cases z1 : z = Da
    · subst z1; rw [upd_same, upd_ne (Ne.symm npD), upd_same]
    · rw [upd_ne z1]
      by_cases z2 : z = p
      · subst z2; rw [upd_same, upd_same]
      · rw [upd_ne z2, upd_ne z2, upd_ne z1]
  · rw [upd_ne npD]; exact hk
  · have := (I.more (o := .dK []) nDH).setN ix
    rw [he] at this
    exact EnvOk.hide this upd_same gD sD mD
  · rw [List.take_zero]; rfl
  · rintro n m Hc ⟨rfl, hn, Hu, Gc, av, ad, rfl, hup, xG, rd, al, I2, look⟩
    by_cases hlt : n < kvs.length
    · refine .inr ⟨⟨upd_same, hlt⟩, St (n + 1), fun H' s' => ⟨kvs.length - (n + 1), by omega, rfl, s'⟩, fun x H' y => ?_⟩
      obtain ⟨rfl, k, v, hkv, rfl⟩ := y
      obtain ⟨y, t, rfl, hds⟩ := dd_shape rk ha hkv
      have hD : Hu Da = some (.dK av) := I2.keep Da _ upd_same mD
      show wipe ((wipe σ [ix]).set ix (some (kV (.inr y)))) [ix] = wipe σ [ix] ∧ _
      refine ⟨by rw [wipe1, wipe1, List.set_set, List.set_set], ?_⟩
      delta tYes
      refine iteT ?_
      have s1 : ((wipe σ [ix]).set ix (some (kV (.inr y))))[ix]? = some (some (kV (.inr y))) := by rw [List.getElem?_set_self]; rw [wipe_length]; exact lix
      have other : ∀ {j : Nat} {u : V}, j ≠ ix → σ[j]? = some (some u) → ((wipe σ [ix]).set ix (some (kV (.inr y))))[j]? = some (some u) := fun {j u} nj hj => by
        rw [List.getElem?_set_ne (Ne.symm nj), wipe1, List.getElem?_set_ne (Ne.symm nj)]; exact hj
      have kin : (lkD y ds).isSome = true := by
        rw [lkD_in]
        exact List.any_eq_true.mpr ⟨_, List.mem_of_getElem? hds, decide_eq_true rfl⟩
      rcases rk.lk (x := y) with ⟨_, e2⟩ | ⟨v2, d2, e1, e2, r2⟩
      · rw [e2] at kin; cases kin
      obtain ⟨t2, rfl⟩ := lkD_int ha e2
      cases r2
      refine ⟨_, s1, ?_⟩
      refine ⟨_, other nx2 hvm, _, other nx1 hv0, _, s1, p, _, rfl, .inl ⟨kvs, .inr y, .inr ⟨od, upd_same⟩, rfl, e1.symm⟩, ?_⟩
      refine ⟨_, _, rfl, rfl, ?_⟩
      refine ⟨_, other nx3 hvg, _, _, rfl, g0, fun q nq => ?_⟩
      have npq : p ≠ q := ne_of_none upd_same nq
      have nqu : Hu q = none := by rw [upd_ne (Ne.symm npq)] at nq; exact nq
      have nDq : Da ≠ q := ne_of_none hD nqu
      refine ⟨av, .inr y, rfl, by rw [upd_ne nDq, upd_ne (Ne.symm npD)]; exact hD, by have : (1000 : Nat) ≤ sizeLine := (by decide); omega, hlt, upd (upd Hu q (.tup [.int ((T - t2) / g), .int ((T - t2) % g)])) Da (.dK (putK av (.inr y) (.ref q))), upd Gc q (.tup [.int ((T - t2) / g), .int ((T - t2) % g)]), putK av (.inr y) (.ref q), putD y (agoD T g (.int t2)) ad, ?_, ?_, ?_, ?_, ?_, ?_, ?_⟩
      · funext z
        by_cases z1 : z = Da
        · subst z1; rw [upd_same, upd_ne (Ne.symm npD), upd_same]
        · rw [upd_ne z1]
          by_cases z3 : z = p
          · subst z3; rw [upd_same, upd_ne npq, upd_same]
          · rw [upd_ne z3, upd_ne z1]
            by_cases z2 : z = q
            · subst z2; rw [upd_same, upd_same]
            · rw [upd_ne z2, upd_ne z2, upd_ne z3]
      · rw [upd_ne npD, upd_ne npq]; exact hup
      · exact xG.trans (Ex.new (I2.exH.fresh nqu))
      · exact DdKv.putD (.tup upd_same (.cons (.int _) (.cons (.int _) .nil))) (rd.ex (Ex.new (I2.exH.fresh nqu)))
      · have := length_putK av (.inr y) (.ref q)
        omega
      · have I3 := I2.new (o := .tup [.int ((T - t2) / g), .int ((T - t2) % g)]) nqu
        exact I3.rehide bD mD gB
      · intro x
        rw [lkD_put, look]
        have tk : ds.take (n + 1) = ds.take n ++ [(.str y, .int t)] := by rw [List.take_add_one, hds]; rfl
        have kk : keyIn x (ds.take (n + 1)) = (keyIn x (ds.take n) || decide (y = x)) := by
          unfold keyIn
          rw [tk, List.any_append]
          simp [isK]
        rw [kk]
        by_cases z : x = y
        · subst z
          rw [if_pos rfl, decide_eq_true rfl, Bool.or_true, if_pos rfl, e2]; rfl
        · rw [if_neg z, decide_eq_false (fun w => z w.symm), Bool.or_false]
    · have e : n = kvs.length := by omega
      subst e
      refine .inl ⟨⟨upd_same, Nat.le_refl _⟩, upd_same, ?_⟩
      rw [upd_upd, upd_eq hup]
      obtain ⟨I6, hD5, gD5, sD5⟩ := I2.unhide bD mD gB
      have I7 : EnvOk K B Gc Hu σ env := EnvOk.unwiped (vs := [ix]) I6 fun j s e z => by
        obtain rfl := List.mem_singleton.mp z
        rw [hx] at e; cases e
      have I8 := I7.freeze hD5 gD5 sD5 bD
      have look' : ∀ x, lkD x ad = (lkD x ds).map (agoD T g) := fun x => by
        rw [look, lk, List.take_length]
        cases hq : keyIn x ds with
        | true => rw [if_pos rfl]
        | false =>
          rw [if_neg Bool.false_ne_true]
          have := lkD_in x ds
          rw [hq] at this
          cases h : lkD x ds with
          | none => rfl
          | some d => rw [h] at this; cases this
      exact a _ _ _ _ (nx ad look') (xG.trans (Ex.new gD5)) (I8.setD (.dct upd_same (rd.ex (Ex.new gD5))))
end
end FD

set_option Elab.async false
set_option linter.all false
set_option maxRecDepth 100000
set_option maxHeartbeats 4000000
namespace FD
open PySem PySem.Spec PyProof.Rows L2
/-! ### set(x), x a list of ints -/
section
variable {P : Program} {w : World} {A : Around} {E : Value → Shared → Prop} {s : Shared}
abbrev bareSet (w : World) : Obj := { cls := .type "set", dict := none, data := .set #[] 0 (.fresh 0 0 (!w.params.followText "set-order")) }
set_option maxHeartbeats 8000000 in
theorem set_of_list {l : Addr} {its : Array Value} (ns : List Int) {Q : Value → Shared → Prop} (nh : A.handled = none) (isl : s.heap.IsList l its) (iall : IntsAre its.toList ns) (few : ns.length + 1 < scanBound)
    (done : ∀ (h' : Heap) (tk c : Nat), SetR w h' s.heap.objs.size (fun j => decide (j ∈ ns)) c → c ≤ ns.length → (∀ b o, s.heap.get? b = some o → h'.get? b = some o) → Q (.ref s.heap.objs.size) { s with heap := h', toks := tk }) :
    wpAny (model P w) A (call (.type "set") [.ref l]) Q E s := by
  have sz : its.size = ns.length := by have := IntsAre.length iall; rwa [Array.length_toList] at this
  obtain ⟨_, _, mro⟩ := F.called_set.mro
  have m1 := F.called_set.made
  have m2 := F.called_set.sub
  refine wpAny_call (codeAny_of_tree ?_)
  show wpAny _ _ (callAny (.type "set") _) _ _ s
  refine wpAny_pure ⟨Code.quiet_builtin _ (by decide +kernel), codeAny_builtin F.entry_type_call ?_⟩
  rw [Around.under_plain (weight_type_call_type "set" [Value.ref l] []) rfl]
  have m3 := F.called_set.notType
  have m4 := F.called_set.canCreate
  have m5 := F.typeCall_set_1 (Value.ref l)
  repeat (any_goals (first | assumption | wp_step))
  let Q1 : Value → Shared → Prop := fun v s1 => v = .ref s.heap.objs.size ∧ s1 = { s with heap := s.heap.push (bareSet w) }
  refine codeAny_mono (code_set_led1 (.ref l) (E := E) (Q₁ := Q1) ⟨rfl, rfl⟩) fun r s1 hr => ?_
  match r, hr with
  | .error _, hr => exact hr
  | .ok (.ret v), hr =>
    obtain ⟨rfl, rfl⟩ := hr
    have at0 : (s.heap.push (bareSet w)).get? s.heap.objs.size = some (bareSet w) := Heap.get?_push_size _ rfl
    have ty0 : Shared.TypeIs { s with heap := s.heap.push (bareSet w) } (.ref s.heap.objs.size) "set" := ⟨_, at0, rfl⟩
    have i1 := F.called_set.init.lookup
    have i2 := F.called_set.init.bind (Value.ref s.heap.objs.size)
    repeat (any_goals (first | assumption | wp_step))
    refine codeAny_mono (codeAny_call_builtin (R := wants (fun r s2 => r = .none ∧ ∃ h' tk c, s2 = { s with heap := h', toks := tk } ∧ SetR w h' s.heap.objs.size (fun j => decide (j ∈ ns)) c ∧ c ≤ ns.length ∧ ∀ b o, s.heap.get? b = some o → h'.get? b = some o) E) F.called_set.init.plain F.entry_set_init (check_set_init_1 ty0 ?_)) fun r2 s2 hr2 => ?_
    · obtain ⟨ol, hol, hcl, nl, hdl⟩ := isl
      obtain ⟨oc, od, oda, osl⟩ := ol
      simp only at hcl hdl
      subst hcl hdl
      have at1 : (s.heap.push (bareSet w)).get? l = some { cls := .type "list", dict := od, data := .seq its nl, slots := osl } := Heap.get?_push_of_some _ hol
      have f1 := F.sub_list_set
      have f2 := F.sub_list_frozenset
      have f3 : (Value.type "list" == Value.type "dict") = false := by decide
      have isl1 : (s.heap.push (bareSet w)).IsList l its := ⟨_, at1, rfl, nl, rfl⟩
      unfold Builtin.«set.__init__» noKeywords Builtin.Frozenset.updateFrom
      generalize hIt : pyIter = It
      wp_walk
      subst hIt
      refine wpAny_pyIter_list isl1 ?_
      refine wpAny_bind (wpAny_runValue ?_)
      have lt0 : l < s.heap.objs.size := Heap.lt_size hol
      have nh3 : A.in1.in1.in1.handled = none := by simp [nh]
      have sz1 : (s.heap.push (bareSet w)).objs.size = s.heap.objs.size + 1 := Heap.size_push ..
      have neq : l ≠ (s.heap.push (bareSet w)).objs.size := by rw [sz1]; exact Nat.ne_of_lt (Nat.lt_succ_of_lt lt0)
      have nin : s.heap.objs.size ∉ [(s.heap.push (bareSet w)).objs.size, l] := by
        intro z
        rcases List.mem_cons.mp z with z | z
        · rw [sz1] at z; exact Nat.ne_of_lt (Nat.lt_succ_self _) z
        · exact Nat.ne_of_gt lt0 (List.mem_singleton.mp z)
      have vals : ∀ (i : Nat) (v : Value), its[i]? = some v → ∃ k t, ns[i]? = some k ∧ v = .int k t := fun i v hv => by
        have li : i < ns.length := by
          have := (Array.getElem?_eq_some_iff.mp hv).1
          omega
        obtain ⟨t, e⟩ := PyProof.Rows.IntsAre.int_at iall i v (by rw [Array.getElem?_toList, hv])
        refine ⟨ns[i], t, List.getElem?_eq_getElem li, ?_⟩
        rw [e, List.getD_eq_getElem?_getD, List.getElem?_eq_getElem li]
        rfl
      refine set_update_ints ((Walks.list nh3 _ l neq its).toS) s.heap.objs.size nin ns sz few vals (its.size - 0) 0 _ (by omega) (Nat.zero_le _) ⟨⟨_, Heap.get?_push_size _ rfl, rfl, rfl⟩, (isl1.push _)⟩ ?from0 ?to1
      case from0 => exact ⟨0, Nat.le_refl 0, setR_new_at (Heap.get?_push_of_some _ at0)⟩
      case to1 =>
        rintro ⟨h2, g2, d2, tk2, os2⟩ c2 hm lc R2
        have eg : g2 = s.gens := hm.gens
        have ed : d2 = s.drawn := hm.drawn
        have eo : os2 = s.os := hm.os
        subst eg ed eo
        show wpAny _ _ _ _ _ _
        refine wpAny_pure ?_
        show wpAny _ _ (ret Value.none) _ _ _
        refine wpAny_pure ⟨rfl, h2, tk2, c2, rfl, R2, sz ▸ lc, fun b o e => ?_⟩
        have lb : b < s.heap.objs.size := Heap.lt_size e
        refine hm.heap b o (fun z => ?_) (Heap.get?_push_of_some _ (Heap.get?_push_of_some _ e))
        rcases List.mem_cons.mp z with z | z
        · exact Nat.ne_of_lt lb z
        · have z2 := List.mem_singleton.mp z
          rw [sz1] at z2
          exact Nat.ne_of_lt (Nat.lt_succ_of_lt lb) z2
    · match r2, hr2 with
      | .error _, hr2 => exact hr2
      | .ok (.ret v2), hr2 =>
        obtain ⟨rfl, h2, tk2, c2, rfl, R2, lc, kp⟩ := hr2
        repeat (any_goals (first | assumption | wp_step))
        exact done _ _ _ R2 lc kp
end
end FD

set_option Elab.async false
set_option linter.all false
set_option maxRecDepth 100000
set_option maxHeartbeats 4000000
namespace FD
open PySem PySem.Spec PyProof.Rows L2
/-! ### tuples of two ints compared -/
section
variable {X : Cx} {K : PySem.W.Frag}
/-- what a comparison of (a, b) with (c, d) tells, r the order -/
def two (r : Int → Int → Bool) (z : Bool) (a b c d : Int) : Bool := if a = c then (if b = d then z else r b d) else r a c
def rTwo (K : PySem.W.Frag) (r : Int → Int → Bool) (z : Bool) : R2 := fun x y H Q => ∃ (p q : Addr) (a b c d : Int), x = .ref p ∧ y = .ref q ∧ SqT K H p [.int a, .int b] ∧ SqT K H q [.int c, .int d] ∧ Q (.bl (two r z a b c d)) H
theorem two_eq (a c : Int) : (a == c) = decide (a = c) := by
  rw [Bool.eq_iff_iff, beq_iff_eq, decide_eq_true_eq]
theorem rd_two {env : En} {P : PyData → Prop} {r : Int → Int → Bool} {z : Bool} {a b c d : Int} (p : P (.bool (two r z a b c d))) : RD K (rTwo K r z) env (.tuple [.int a, .int b]) (.tuple [.int c, .int d]) P := rd_keep p fun G H x y Q x1 rx ry q => by
  cases rx with
  | tup h1 r1 =>
    cases ry with
    | tup h2 r2 =>
      cases r1 with
      | cons r1 r3 =>
        cases r1
        obtain ⟨_, rfl, r4⟩ := r3.one
        cases r4
        cases r2 with
        | cons r2 r5 =>
          cases r2
          obtain ⟨_, rfl, r6⟩ := r5.one
          cases r6
          exact ⟨_, _, a, b, c, d, rfl, rfl, SqT.of (x1 _ _ h1), SqT.of (x1 _ _ h2), q _ (.bl _)⟩
theorem op_twolt (hu : X.A.units < cLine) : OpR X (compareOp .Lt) (rTwo X.K (fun i j => decide (i < j)) false) := by
  intro pins s σ H x y v u Q I rx ry h
  obtain ⟨p, q, a, b, c, d, rfl, rfl, hp, hq, k⟩ := h
  cases rx; cases ry
  obtain ⟨l1, r1, t1, _⟩ := I.tuple hp
  obtain ⟨l2, r2, t2, _⟩ := I.tuple hq
  obtain ⟨_, _, rfl, ⟨_, rfl⟩, ⟨_, rfl⟩⟩ := vals2 r1
  obtain ⟨_, _, rfl, ⟨_, rfl⟩, ⟨_, rfl⟩⟩ := vals2 r2
  have R := Ob.RcOp.tuples_lt (A := X.A) (s := s) (e := fun j => if j = 0 then a == c else b == d) (r := fun j => if j = 0 then (fun i j => decide (i < j)) a c else (fun i j => decide (i < j)) b d) t1 t2 hu (fun j h1 h2 => by
    match j, h1, h2 with
    | 0, _, _ => exact SeqAt.EqAt.int_int _ _ _ _
    | 1, _, _ => exact SeqAt.EqAt.int_int _ _ _ _
    | n + 2, h1, _ => exact absurd h1 (by simp)) (fun j h1 h2 _ => by
    match j, h1, h2 with
    | 0, _, _ => exact Ob.RcOp.lt_int _ _ _ _
    | 1, _, _ => exact Ob.RcOp.lt_int _ _ _ _
    | n + 2, h1, _ => exact absurd h1 (by simp))
  have e : Ob.lexAt (fun j => if j = 0 then a == c else b == d) (fun j => if j = 0 then (fun i j => decide (i < j)) a c else (fun i j => decide (i < j)) b d) false 0 2 = two (fun i j => decide (i < j)) false a b c d := by
    show (if (a == c) = true then (if (b == d) = true then false else _) else _) = _
    rw [two_eq, two_eq]
    unfold two
    simp only [decide_eq_true_eq]
    rfl
  have R2 := R X.prog X.w X.xe (EP X pins σ Q)
  refine R2 ?_
  show EP X pins σ Q (.bool (Ob.lexAt _ _ false 0 2)) s
  rw [e]
  exact ⟨.bl _, H, I, rfl, k⟩
theorem op_twogt (hu : X.A.units < cLine) : OpR X (compareOp .Gt) (rTwo X.K (fun i j => decide (j < i)) false) := by
  intro pins s σ H x y v u Q I rx ry h
  obtain ⟨p, q, a, b, c, d, rfl, rfl, hp, hq, k⟩ := h
  cases rx; cases ry
  obtain ⟨l1, r1, t1, _⟩ := I.tuple hp
  obtain ⟨l2, r2, t2, _⟩ := I.tuple hq
  obtain ⟨_, _, rfl, ⟨_, rfl⟩, ⟨_, rfl⟩⟩ := vals2 r1
  obtain ⟨_, _, rfl, ⟨_, rfl⟩, ⟨_, rfl⟩⟩ := vals2 r2
  have R := Ob.RcOp.tuples_gt (A := X.A) (s := s) (e := fun j => if j = 0 then a == c else b == d) (r := fun j => if j = 0 then (fun i j => decide (j < i)) a c else (fun i j => decide (j < i)) b d) t1 t2 hu (fun j h1 h2 => by
    match j, h1, h2 with
    | 0, _, _ => exact SeqAt.EqAt.int_int _ _ _ _
    | 1, _, _ => exact SeqAt.EqAt.int_int _ _ _ _
    | n + 2, h1, _ => exact absurd h1 (by simp)) (fun j h1 h2 _ => by
    match j, h1, h2 with
    | 0, _, _ => exact Ob.RcOp.gt_int _ _ _ _
    | 1, _, _ => exact Ob.RcOp.gt_int _ _ _ _
    | n + 2, h1, _ => exact absurd h1 (by simp))
  have e : Ob.lexAt (fun j => if j = 0 then a == c else b == d) (fun j => if j = 0 then (fun i j => decide (j < i)) a c else (fun i j => decide (j < i)) b d) false 0 2 = two (fun i j => decide (j < i)) false a b c d := by
    show (if (a == c) = true then (if (b == d) = true then false else _) else _) = _
    rw [two_eq, two_eq]
    unfold two
    simp only [decide_eq_true_eq]
    rfl
  have R2 := R X.prog X.w X.xe (EP X pins σ Q)
  refine R2 ?_
  show EP X pins σ Q (.bool (Ob.lexAt _ _ false 0 2)) s
  rw [e]
  exact ⟨.bl _, H, I, rfl, k⟩
theorem op_twole (hu : X.A.units < cLine) : OpR X (compareOp .LtE) (rTwo X.K (fun i j => decide (i ≤ j)) true) := by
  intro pins s σ H x y v u Q I rx ry h
  obtain ⟨p, q, a, b, c, d, rfl, rfl, hp, hq, k⟩ := h
  cases rx; cases ry
  obtain ⟨l1, r1, t1, _⟩ := I.tuple hp
  obtain ⟨l2, r2, t2, _⟩ := I.tuple hq
  obtain ⟨_, _, rfl, ⟨_, rfl⟩, ⟨_, rfl⟩⟩ := vals2 r1
  obtain ⟨_, _, rfl, ⟨_, rfl⟩, ⟨_, rfl⟩⟩ := vals2 r2
  have R := Ob.RcOp.tuples_le (A := X.A) (s := s) (e := fun j => if j = 0 then a == c else b == d) (r := fun j => if j = 0 then (fun i j => decide (i ≤ j)) a c else (fun i j => decide (i ≤ j)) b d) t1 t2 hu (fun j h1 h2 => by
    match j, h1, h2 with
    | 0, _, _ => exact SeqAt.EqAt.int_int _ _ _ _
    | 1, _, _ => exact SeqAt.EqAt.int_int _ _ _ _
    | n + 2, h1, _ => exact absurd h1 (by simp)) (fun j h1 h2 _ => by
    match j, h1, h2 with
    | 0, _, _ => exact Ob.RcOp.le_int _ _ _ _
    | 1, _, _ => exact Ob.RcOp.le_int _ _ _ _
    | n + 2, h1, _ => exact absurd h1 (by simp))
  have e : Ob.lexAt (fun j => if j = 0 then a == c else b == d) (fun j => if j = 0 then (fun i j => decide (i ≤ j)) a c else (fun i j => decide (i ≤ j)) b d) true 0 2 = two (fun i j => decide (i ≤ j)) true a b c d := by
    show (if (a == c) = true then (if (b == d) = true then true else _) else _) = _
    rw [two_eq, two_eq]
    unfold two
    simp only [decide_eq_true_eq]
    rfl
  have R2 := R X.prog X.w X.xe (EP X pins σ Q)
  refine R2 ?_
  show EP X pins σ Q (.bool (Ob.lexAt _ _ true 0 2)) s
  rw [e]
  exact ⟨.bl _, H, I, rfl, k⟩
theorem op_twoge (hu : X.A.units < cLine) : OpR X (compareOp .GtE) (rTwo X.K (fun i j => decide (j ≤ i)) true) := by
  intro pins s σ H x y v u Q I rx ry h
  obtain ⟨p, q, a, b, c, d, rfl, rfl, hp, hq, k⟩ := h
  cases rx; cases ry
  obtain ⟨l1, r1, t1, _⟩ := I.tuple hp
  obtain ⟨l2, r2, t2, _⟩ := I.tuple hq
  obtain ⟨_, _, rfl, ⟨_, rfl⟩, ⟨_, rfl⟩⟩ := vals2 r1
  obtain ⟨_, _, rfl, ⟨_, rfl⟩, ⟨_, rfl⟩⟩ := vals2 r2
  have R := Ob.RcOp.tuples_ge (A := X.A) (s := s) (e := fun j => if j = 0 then a == c else b == d) (r := fun j => if j = 0 then (fun i j => decide (j ≤ i)) a c else (fun i j => decide (j ≤ i)) b d) t1 t2 hu (fun j h1 h2 => by
    match j, h1, h2 with
    | 0, _, _ => exact SeqAt.EqAt.int_int _ _ _ _
    | 1, _, _ => exact SeqAt.EqAt.int_int _ _ _ _
    | n + 2, h1, _ => exact absurd h1 (by simp)) (fun j h1 h2 _ => by
    match j, h1, h2 with
    | 0, _, _ => exact Ob.RcOp.ge_int _ _ _ _
    | 1, _, _ => exact Ob.RcOp.ge_int _ _ _ _
    | n + 2, h1, _ => exact absurd h1 (by simp))
  have e : Ob.lexAt (fun j => if j = 0 then a == c else b == d) (fun j => if j = 0 then (fun i j => decide (j ≤ i)) a c else (fun i j => decide (j ≤ i)) b d) true 0 2 = two (fun i j => decide (j ≤ i)) true a b c d := by
    show (if (a == c) = true then (if (b == d) = true then true else _) else _) = _
    rw [two_eq, two_eq]
    unfold two
    simp only [decide_eq_true_eq]
    rfl
  have R2 := R X.prog X.w X.xe (EP X pins σ Q)
  refine R2 ?_
  show EP X pins σ Q (.bool (Ob.lexAt _ _ true 0 2)) s
  rw [e]
  exact ⟨.bl _, H, I, rfl, k⟩
variable {a b : Expr} {ta tb : TE} {pos : Pos}
theorem km_twolt (m : KMark K) (hK : X.K = K) {k : Nat} (hr : Room k X.A) {es : List Expr} {ep : Pos} {x1 : Nat} (ha : PE X a ta) (hb : PE X (.Tuple es x1 ep) tb) : PE X (.Compare a [.Lt] [.Tuple es x1 ep] pos) (tOp (rTwo K (fun i j => decide (i < j)) false) ta tb) := by
  subst hK
  exact pe_cmpR (op_twolt (Nat.lt_of_succ_lt (Room.u1 hr))) ha hb (nomark _)
theorem km_twogt (m : KMark K) (hK : X.K = K) {k : Nat} (hr : Room k X.A) {es : List Expr} {ep : Pos} {x1 : Nat} (ha : PE X a ta) (hb : PE X (.Tuple es x1 ep) tb) : PE X (.Compare a [.Gt] [.Tuple es x1 ep] pos) (tOp (rTwo K (fun i j => decide (j < i)) false) ta tb) := by
  subst hK
  exact pe_cmpR (op_twogt (Nat.lt_of_succ_lt (Room.u1 hr))) ha hb (nomark _)
theorem km_twole (m : KMark K) (hK : X.K = K) {k : Nat} (hr : Room k X.A) {es : List Expr} {ep : Pos} {x1 : Nat} (ha : PE X a ta) (hb : PE X (.Tuple es x1 ep) tb) : PE X (.Compare a [.LtE] [.Tuple es x1 ep] pos) (tOp (rTwo K (fun i j => decide (i ≤ j)) true) ta tb) := by
  subst hK
  exact pe_cmpR (op_twole (Nat.lt_of_succ_lt (Room.u1 hr))) ha hb (nomark _)
theorem km_twoge (m : KMark K) (hK : X.K = K) {k : Nat} (hr : Room k X.A) {es : List Expr} {ep : Pos} {x1 : Nat} (ha : PE X a ta) (hb : PE X (.Tuple es x1 ep) tb) : PE X (.Compare a [.GtE] [.Tuple es x1 ep] pos) (tOp (rTwo K (fun i j => decide (j ≤ i)) true) ta tb) := by
  subst hK
  exact pe_cmpR (op_twoge (Nat.lt_of_succ_lt (Room.u1 hr))) ha hb (nomark _)
end
/-! ### in, of ints -/
def isK2 (k : Int) : PyData → Bool
  | .int j => decide (j = k)
  | _ => false
def hasI (k : Int) (ds : List PyData) : Bool := ds.any (isK2 k)
def isI : PyData → Bool
  | .int _ => true
  | _ => false
def allI (ds : List PyData) : Bool := ds.all isI
theorem inV_ints {G : Hp} {k : Int} : ∀ {xs : List V} {ds : List PyData}, DdAll G xs ds → allI ds = true → xs.all flatV = true ∧ inV (.int k) xs = hasI k ds
  | _, _, .nil, _ => ⟨rfl, rfl⟩
  | _, _, .cons (d := d) r t, a => by
    have a' : (isI d && allI _) = true := a
    rw [Bool.and_eq_true] at a'
    obtain ⟨h1, h2⟩ := inV_ints (k := k) t a'.2
    cases d with
    | int j =>
      cases r
      refine ⟨by rw [List.all_cons, h1]; rfl, ?_⟩
      show ((j == k) || inV _ _) = (decide (j = k) || hasI k _)
      rw [h2, two_eq]
    | _ => exact absurd a'.1 Bool.false_ne_true
theorem rd_inI {K : PySem.W.Frag} {env : En} {P : PyData → Prop} {k : Int} {ds : List PyData} {n : Bool} (a : allI ds = true) (p : P (.bool (if n then !hasI k ds else hasI k ds))) : RD K (rIn K n) env (.int k) (.list ds) P := rd_keep p fun G H x y Q x1 rx ry q => by
  cases rx
  cases ry with
  | lst h1 h2 =>
    obtain ⟨e1, e2⟩ := inV_ints (k := k) h2 a
    refine ⟨_, _, rfl, .inl (SqL.of (x1 _ _ h1)), rfl, e1, ?_⟩
    rw [e2]; exact q _ (.bl _)
theorem rd_inT {K : PySem.W.Frag} {env : En} {P : PyData → Prop} {k : Int} {ds : List PyData} {n : Bool} (a : allI ds = true) (p : P (.bool (if n then !hasI k ds else hasI k ds))) : RD K (rIn K n) env (.int k) (.tuple ds) P := rd_keep p fun G H x y Q x1 rx ry q => by
  cases rx
  cases ry with
  | tup h1 h2 =>
    obtain ⟨e1, e2⟩ := inV_ints (k := k) h2 a
    refine ⟨_, _, rfl, .inr (SqT.of (x1 _ _ h1)), rfl, e1, ?_⟩
    rw [e2]; exact q _ (.bl _)
/-- in a list of one's own, which may yet change -/
theorem ev_inOwn {K : PySem.W.Frag} {env : En} {te : TE} {i : Nat} {n : Bool} {P : En → PyData → Prop} (h : EvE K te env fun e1 d => ∃ (k : Int) (p : Addr) (ds : List PyData), d = .int k ∧ e1[i]? = some (some (.own p ds)) ∧ allI ds = true ∧ P e1 (.bool (if n then !hasI k ds else hasI k ds))) :
    EvE K (tOp (rIn K n) te (tVar i)) env P := fun B σ G H Q I q =>
  h B σ G H _ I fun x G1 H1 e1 d1 p1 x1 I1 r1 => by
    obtain ⟨k, p, ds, rfl, hi, a, hp⟩ := p1
    cases r1
    obtain ⟨v, hv, rfl, g, xs, hx, r⟩ := I1.sl i _ hi
    obtain ⟨e1', e2⟩ := inV_ints (k := k) r a
    refine ⟨_, hv, _, _, rfl, .inl (SqL.of hx), rfl, e1', ?_⟩
    rw [e2]
    exact q _ G1 H1 e1 _ hp x1 I1 (.bl _)
section
variable {X : Cx} {K : PySem.W.Frag} {a b : Expr} {ta tb : TE} {pos : Pos}
theorem km_inQ (m : KMark K) (hK : X.K = K) (ha : PE X a ta) (hb : PE X b tb) (hm : behindInMarks .In b = false) : PE X (.Compare a [.In] [b] pos) (tOp (rIn K false) ta tb) := by
  subst hK
  exact pe_cmpR op_in_seq ha hb hm
theorem km_ninQ (m : KMark K) (hK : X.K = K) (ha : PE X a ta) (hb : PE X b tb) (hm : behindInMarks .NotIn b = false) : PE X (.Compare a [.NotIn] [b] pos) (tOp (rIn K true) ta tb) := by
  subst hK
  exact pe_cmpR op_notIn_seq ha hb hm
end
/-! ### len(set(x) & set(y)) -/
section
variable {X : Cx}
/-- set(x), x a list or a tuple of ints -/
def rSetI (K : PySem.W.Frag) (w : World) : List V → Hp → VK → Prop := fun vs H Q => ∃ (l : Addr) (ns : List Int), vs = [V.ref l] ∧ (SqL K H l (ns.map V.int) ∨ SqT K H l (ns.map V.int)) ∧ ns.length < 1000 ∧
  ∀ p c, H p = none → c ≤ ns.length → Q (.ref p) (upd H p (SetO w p (fun j => decide (j ∈ ns)) c))
theorem cr_setI (hc : X.calm = true) : CallR X (.type "set") (rSetI X.K X.w) := by
  intro pins s σ H vs us Q I r h
  obtain ⟨l, ns, rfl, hl, few, q⟩ := h
  rw [Vals.ref1 r]
  have fin : ∀ (h' : Heap) (tk c : Nat), SetR X.w h' s.heap.objs.size (fun j => decide (j ∈ ns)) c → c ≤ ns.length → (∀ b o, s.heap.get? b = some o → h'.get? b = some o) → EP X pins σ Q (.ref s.heap.objs.size) { s with heap := h', toks := tk } := fun h' tk c R lc kp => by
    have hn : H s.heap.objs.size = none := I.hok.fresh (Nat.le_refl _)
    exact ⟨.ref s.heap.objs.size, _, I.laid kp (Nat.le_refl _) (setO_new R), rfl, q _ c hn lc⟩
  have big : (1001 : Nat) < scanBound := by decide
  rcases hl with hl | hl
  · obtain ⟨its, rv, pl, hz⟩ := I.list hl
    exact set_of_list ns (I.ok.hd hc) pl.isList (ints_of_vals rv) (by omega) fin
  · obtain ⟨its, rv, pl, hz⟩ := I.tuple hl
    exact call_set_tupI ns (I.ok.hd hc) pl (ints_of_vals rv) (by omega) fin
/-- of two sets what is in both -/
def rMeet (w : World) : R2 := fun x y H Q => ∃ (a b : Addr) (S T : Int → Bool) (n m : Nat), x = .ref a ∧ y = .ref b ∧ H a = some (SetO w a S n) ∧ H b = some (SetO w b T m) ∧ b ≠ a ∧ n < 1000 ∧ m < 1000 ∧
  ∀ p c, H p = none → Q (.ref p) (upd H p (SetO w p (fun k => S k && T k) c))
theorem op_meet : OpR X (binaryOp .BitAnd) (rMeet X.w) := by
  intro pins s σ H x y v u Q I rx ry h
  obtain ⟨a, b, S, T, n, m, rfl, rfl, ha, hb, ne, hn, hm, q⟩ := h
  cases rx; cases ry
  have big : (1001 : Nat) < scanBound := by decide
  refine set_and (setO_get I ha) (setO_get I hb) ne (by omega) (by omega) fun h' d c kp R => ?_
  have hp : H s.heap.objs.size = none := I.hok.fresh (Nat.le_refl _)
  have J : Inv X pins σ (upd H s.heap.objs.size (SetO X.w s.heap.objs.size (fun k => S k && T k) c)) { s with heap := h', drawn := d } :=
    I.call (ch := []) (Un.laid kp (Nat.le_refl _) hp) (I.hok.laid kp (Nat.le_refl _) (setO_new R)) I.bare (fun _ z => nomatch z)
  exact ⟨.ref s.heap.objs.size, _, J, rfl, q _ c hp⟩
/-- how many there are: none just where nothing is in it -/
def rLenM (w : World) : List V → Hp → VK → Prop := fun vs H Q => ∃ (a : Addr) (S : Int → Bool) (n : Nat), vs = [V.ref a] ∧ H a = some (SetO w a S n) ∧ ∀ m : Nat, (0 < m ↔ ∃ k, S k = true) → Q (.int m) H
theorem cr_lenM : CallR X (.builtin "len") (rLenM X.w) := by
  intro pins s σ H vs us Q I r h
  obtain ⟨a, S, n, rfl, ha, q⟩ := h
  rw [Vals.ref1 r]
  obtain ⟨o, es, ep, t, ho, hex, hd, g, nd, mem, hb, hf, hn, hr, hl⟩ := setO_get I ha
  refine call_len_set ho hex hd hf (by unfold scanBound at hb; omega) ⟨.int es.size, H, I.tok _, ⟨_, rfl⟩, q _ ?_⟩
  constructor
  · intro z
    have z' : 0 < es.toList.length := by rw [Array.length_toList]; exact z
    refine ⟨keyOf (es.toList[0]), (mem _).mpr (List.mem_map.mpr ⟨_, List.getElem_mem z', rfl⟩)⟩
  · rintro ⟨k, hk⟩
    obtain ⟨e, he, _⟩ := List.mem_map.mp ((mem k).mp hk)
    have := List.length_pos_of_mem he
    rwa [Array.length_toList] at this
end
section
variable {K : PySem.W.Frag} {w : World} {env : En} {ta tb : TE}
theorem toInts : ∀ {ds : List PyData}, allI ds = true → ∃ ns : List Int, ds = ns.map .int
  | [], _ => ⟨[], rfl⟩
  | d :: ds, a => by
    have a' : (isI d && allI ds) = true := a
    rw [Bool.and_eq_true] at a'
    obtain ⟨ns, rfl⟩ := toInts a'.2
    cases d with
    | int j => exact ⟨j :: ns, rfl⟩
    | _ => exact absurd a'.1 Bool.false_ne_true
theorem dd_ints {G : Hp} : ∀ {ns : List Int} {xs : List V}, DdAll G xs (ns.map .int) → xs = ns.map V.int
  | [], _, h => by cases h; rfl
  | n :: ns, _, h => by
    cases h with
    | cons r t => cases r; rw [dd_ints t]; rfl
/-- len(set(x) & set(y)), x a list, y a tuple of ints -/
theorem ev_meet {P : En → PyData → Prop} (h : EvE K ta env fun e1 d => ∃ ns : List Int, d = .list (ns.map .int) ∧ ns.length < 1000 ∧ EvE K tb e1 fun e2 f => ∃ ms : List Int, f = .tuple (ms.map .int) ∧ ms.length < 1000 ∧
      ∀ c : Nat, (0 < c ↔ ∃ k, k ∈ ns ∧ k ∈ ms) → P e2 (.int c)) :
    EvE K (tCB (rLenM w) (tCons (tOp (rMeet w) (tCB (rSetI K w) (tCons ta tNil)) (tCB (rSetI K w) (tCons tb tNil))) tNil)) env P := fun B σ G H Q I q =>
  h B σ G H _ I fun x G1 H1 e1 d1 p1 x1 I1 r1 => by
    obtain ⟨ns, rfl, hn, p1⟩ := p1
    cases r1 with
    | lst h1 r1 =>
      rw [dd_ints r1] at h1
      refine ⟨_, ns, rfl, .inl (SqL.of (I1.exH _ _ h1)), hn, fun p c np lc => ?_⟩
      have gp : G1 p = none := I1.exH.fresh np
      obtain ⟨bp, sp⟩ := I1.fresh np
      have mp : ¬ B.mu p := fun m => by obtain ⟨o, ho⟩ := I1.mus p m; rw [bp] at ho; cases ho
      have gB : B.G p = none := I1.exG.fresh gp
      refine p1 ⟨upd B.H p (SetO w p (fun j => decide (j ∈ ns)) c), B.G, B.mu⟩ σ G1 _ _ (EnvOk.hide (I1.more np) upd_same gp sp mp) fun y G2 H2 e2 d2 p2 x2 I2 r2 => ?_
      obtain ⟨ms, rfl, hm, p2⟩ := p2
      obtain ⟨I3, hp2, gp2, sp2⟩ := I2.unhide bp mp gB
      cases r2 with
      | tup h2 r2 =>
        rw [dd_ints r2] at h2
        refine ⟨_, ms, rfl, .inr (SqT.of (I3.exH _ _ h2)), hm, fun p' c' np' lc' => ?_⟩
        have ne : p ≠ p' := ne_of_none hp2 np'
        refine ⟨p, p', _, _, c, c', rfl, rfl, by rw [upd_ne ne]; exact hp2, upd_same, Ne.symm ne, by omega, by omega, fun p3 c3 np3 => ?_⟩
        refine ⟨p3, _, c3, rfl, upd_same, fun m hm => ?_⟩
        refine q _ G2 _ e2 _ (p2 m (hm.trans ?_)) (x1.trans x2) ((I3.more np').more np3) (.int _)
        constructor
        · rintro ⟨k, hk⟩
          have hk' : (decide (k ∈ ns) && decide (k ∈ ms)) = true := hk
          rw [Bool.and_eq_true, decide_eq_true_eq, decide_eq_true_eq] at hk'
          exact ⟨k, hk'⟩
        · rintro ⟨k, h1, h2⟩
          refine ⟨k, ?_⟩
          show (decide (k ∈ ns) && decide (k ∈ ms)) = true
          rw [decide_eq_true h1, decide_eq_true h2]; rfl
/-! ### the same as syntax -/
theorem km_lenMeet {X : Cx} {K : PySem.W.Frag} {w : World} (m : KMark K) (hK : X.K = K) (hw : X.w = w) {a b : Expr} {p1 p2 p3 q1 q2 pos pos2 : Pos} (hc : X.calm = true) (hg : Gl X "len") (hm : X.mg "len" = none) (hg2 : Gl X "set") (hm2 : X.mg "set" = none) (ha : PE X a ta) (hb : PE X b tb)
    (e1 : starEach [a] X.env = (false, eval a X.env) :: starEach [] X.env) (e2 : starEach [b] X.env = (false, eval b X.env) :: starEach [] X.env)
    (e3 : starEach [Expr.BinOp (.Call (.Name "set" p2) [a] [] q1) .BitAnd (.Call (.Name "set" p3) [b] [] q2) pos2] X.env = (false, eval (Expr.BinOp (.Call (.Name "set" p2) [a] [] q1) .BitAnd (.Call (.Name "set" p3) [b] [] q2) pos2) X.env) :: starEach [] X.env)
    (h0 : ∀ (p : Pos), (backTo p (starEach [] X.env)).any (·.1) = false) (pa : PA X [a] (tCons ta tNil)) (pb : PA X [b] (tCons tb tNil)) (pc : ∀ {t : TE}, PE X (Expr.BinOp (.Call (.Name "set" p2) [a] [] q1) .BitAnd (.Call (.Name "set" p3) [b] [] q2) pos2) t → PA X [Expr.BinOp (.Call (.Name "set" p2) [a] [] q1) .BitAnd (.Call (.Name "set" p3) [b] [] q2) pos2] (tCons t tNil)) :
    PE X (.Call (.Name "len" p1) [.BinOp (.Call (.Name "set" p2) [a] [] q1) .BitAnd (.Call (.Name "set" p3) [b] [] q2) pos2] [] pos) (tCB (rLenM w) (tCons (tOp (rMeet w) (tCB (rSetI K w) (tCons ta tNil)) (tCB (rSetI K w) (tCons tb tNil))) tNil)) := by
  subst hK hw
  have s1 : PE X (.Call (.Name "set" p2) [a] [] q1) (tCB (rSetI X.K X.w) (tCons ta tNil)) := pe_callTy (cr_setI hc) hg2 hm2 PyProof.Rows.boot_set pa (by decide) (by decide) e1 (h0 _)
  have s2 : PE X (.Call (.Name "set" p3) [b] [] q2) (tCB (rSetI X.K X.w) (tCons tb tNil)) := pe_callTy (cr_setI hc) hg2 hm2 PyProof.Rows.boot_set pb (by decide) (by decide) e2 (h0 _)
  exact pe_callB cr_lenM hg hm PySem.boot_len (pc (pe_op op_meet s1 s2)) (by decide) (by decide) e3 (h0 _)
end
end FD

set_option Elab.async false
set_option linter.all false
set_option maxRecDepth 100000
set_option maxHeartbeats 4000000
namespace FD
open PySem PySem.Spec PyProof.Rows L2
structure Bi3 (mg : Str → Option Value) : Prop where
  divmod : mg "divmod" = none
theorem bDivmod : bootBuiltins "divmod" = some (.builtin "divmod") := by decide +kernel
section
variable {X : Cx}
/-! ### y = {k: v for x in d}, d locked meanwhile -/
theorem sw_dict {k v : Expr} {gs : List Comprehension} {scope : Scope} {pos py : Pos} {y : Str} {l : Nat} {env : Env} (hk : env.scope.kind = .function) (hy : env.scope.names.lookup y = some .local) (hl : (py.line == pos.line) = true)
    (ha : (scope.names.any fun (n, k) => n == y && (k == .local || k == .cell)) = false) : swapsWith (.DictComp k v gs scope pos) (some (.Name y py)) l env = pure true := by
  have h1 : env.kindOf y = some .local := hy
  have h2 : env.blockKind = .function := by unfold Env.blockKind; rw [hk]; rfl
  unfold swapsWith
  simp only [h2, h1, ha, Expr.pos, hl]
  rfl
theorem ps_lockDc {N : List Str} {i j : Nat} {x y : Str} {px py : Pos} {kx vx iter : Expr} {scope : Scope} {pos spos : Pos} {td tk tv : TE} (hc : X.calm = true) (hN : X.N.Nodup) (hj : N[j]? = some y) (hX : X.N = N)
    (hy : X.env.scope.names.lookup y = some .local) (hf : X.env.scope.kind = .function) (hl : (py.line == pos.line) = true) (ha : (scope.names.any fun (n, k) => n == y && (k == .local || k == .cell)) = false)
    (hg : ∀ (s : Shared) (H : Hp) (C : Addr) (cl : List (Str × Addr)) (fp : List Addr), PG (X.blk s H scope (compEnvC scope cl C X.env) fp) (.Name x px) (gName i))
    (ok : blkC X.N X.env.scope scope [(x, i)] = true) (hi : PE X iter td)
    (hk : ∀ (s : Shared) (H : Hp) (C : Addr) (cl : List (Str × Addr)) (fp : List Addr), PE (X.blk s H scope (compEnvC scope cl C X.env) fp) kx tk)
    (he : ∀ (s : Shared) (H : Hp) (C : Addr) (cl : List (Str × Addr)) (fp : List Addr), PE (X.blk s H scope (compEnvC scope cl C X.env) fp) vx tv)
    (hs : ∀ z, foldedSetIterable iter X.env z = pure z) :
    PS X (.Assign [.Name y py] (.DictComp kx vx [⟨.Name x px, iter, [], 0⟩] scope pos) spos) (tLock (tAsg (tDc (iKeys td) (gName i) tYes tk tv [i]) (gName j))) := by
  have hj' : X.N[j]? = some y := by rw [hX]; exact hj
  refine ps_lock ⟨fun pins s σ H D I h => ?_⟩
  rw [exec_Assign_Name_used _ _ _ _ (sw_dict hf hy hl ha)]
  refine wpAny_bind (wpAny_standAt (wpAny_bind ?_))
  show wpAny _ X.A (do let _ ← comprehension (.DictComp kx vx [⟨.Name x px, iter, [], 0⟩] scope pos) scope X.env (firstIterPos [⟨.Name x px, iter, [], 0⟩] pos) newDict false (eval iter X.env) (some (assign (.Name y py) X.env))) _ _ s
  have goal : tDc (iKeys td) (gName i) tYes tk tv ([(x, i)].map (·.2)) σ H (fun v H1 => gName j v σ H1 D.nx) := h
  refine wpAny_bind (thn (dc_core (Qf := fun _ s' => SP X pins D .next s') hc hN I (pi_keys hi) (blkOk_by ok) hg (fun _ _ _ _ _ => pts_nil) hk he hs goal fun L C s' m H' I' q hn fr => ?_) fun _ s' hq => wpAny_pure (wpAny_pure hq))
  show wpAny _ _ (assign (.Name y py) X.env (.ref L)) _ _ _
  refine wpAny_assign_Name (store_ok2 (v := V.ref L) I' hN hj' (.inl hy) rfl (fun s2 I2 st => ?_) (.inr hy))
  obtain ⟨a, sb, wh⟩ := st
  obtain ⟨f0, f1, f2, f3, f4, f5⟩ := fr
  have off : C ≠ a := wh.elim (fun z => by rw [z]; exact f1) fun z e => f4 y a z e.symm
  refine ⟨m, hn.sameBut sb off, fun h3 sb3 => ⟨_, H', I2.turned (t' := s2.toks) (fun b o hb e => (sb3.2 b hb).trans e) f0 f1 f3 f4 f5, q⟩⟩
/-! ### sorted({e for x in xs for a, b in ys if t}) -/
theorem km_sortSc2 {K : PySem.W.Frag} {w : World} (m : KMark K) (hK : X.K = K) (hw : X.w = w) {i j1 j2 : Nat} {x y1 y2 : Str} {px p1 p2 pt p pos pos2 : Pos} {kt : Nat} {elt iter iter1 : Expr} {ifs1 : List Expr} {scope : Scope} {wi wi1 : TI} {tt1 : TT} {te : TE} (hc : X.calm = true) (hN : X.N.Nodup)
    (hgl : Gl X "sorted") (hmg : X.mg "sorted" = none)
    (hg : ∀ (s : Shared) (H : Hp) (C : Addr) (cl : List (Str × Addr)) (fp : List Addr), PG (X.blk s H scope (compEnvC scope cl C X.env) fp) (.Name x px) (gName i))
    (ok : blkC X.N X.env.scope scope [(x, i), (y1, j1), (y2, j2)] = true) (hi : PI X (.Name x px) iter wi)
    (hi1 : ∀ (s : Shared) (H : Hp) (C : Addr) (cl : List (Str × Addr)) (fp : List Addr), PI (X.blk s H scope (compEnvC scope cl C X.env) fp) (.Tuple [.Name y1 p1, .Name y2 p2] kt pt) iter1 wi1)
    (hg1 : ∀ (s : Shared) (H : Hp) (C : Addr) (cl : List (Str × Addr)) (fp : List Addr), PG (X.blk s H scope (compEnvC scope cl C X.env) fp) (.Tuple [.Name y1 p1, .Name y2 p2] kt pt) (gTup K 2 (gCons (gName j1) (gCons (gName j2) gNil))))
    (ht1 : ∀ (s : Shared) (H : Hp) (C : Addr) (cl : List (Str × Addr)) (fp : List Addr), PTs (X.blk s H scope (compEnvC scope cl C X.env) fp) ifs1 tt1)
    (he : ∀ (s : Shared) (H : Hp) (C : Addr) (cl : List (Str × Addr)) (fp : List Addr), PE (X.blk s H scope (compEnvC scope cl C X.env) fp) elt te)
    (hs : ∀ z, foldedSetIterable iter X.env z = pure z) (hs1 : ∀ env z, foldedSetIterable iter1 env z = pure z) :
    PE X (.Call (.Name "sorted" p) [.SetComp elt [⟨.Name x px, iter, [], 0⟩, ⟨.Tuple [.Name y1 p1, .Name y2 p2] kt pt, iter1, ifs1, 0⟩] scope pos2] [] pos)
      (tCB (rSortedSet w) (tCons (tSc2 w wi (gName i) tYes wi1 (gTup K 2 (gCons (gName j1) (gCons (gName j2) gNil))) tt1 te [i, j1, j2] [j1, j2]) tNil)) := by
  subst hK hw
  have e := pe_sc2 (own := [(x, i), (y1, j1), (y2, j2)]) (vs1 := [j1, j2]) (pos := pos2) hc hN hi (blkOk_by ok) (by intro k hk; exact List.mem_cons_of_mem _ hk) hg (fun _ _ _ _ _ => pts_nil) hi1 hg1 ht1 he hs hs1
  exact pe_callB (cr_sortedSet hc) hgl hmg bSorted (pa_cons e pa_nil (by rfl)) (by decide) (by decide) (by rfl) (by rfl)
theorem pe_get2 {o e f : Expr} {apos cpos : Pos} {td ty tx : TE} (hu : X.A.units + 1 < cLine) (ho : PE X o td) (he : PE X e ty) (hf : PE X f tx) (b : attributeBase o "get" X.env (eval o X.env) = eval o X.env)
    (few : ((backTo cpos (starEach [e, f] X.env)).all (fun x => !x.1) && (backToKw cpos (keywordEach [] X.env)).all (fun x => x.1.isSome) && decide (([e, f] : List Expr).length + ([] : List Keyword).length + (if ([] : List Keyword).isEmpty then 0 else 1) < 30)) = true)
    (ln : (apos.endLine == cpos.line) = true) (tr : backTo cpos (starEach [e, f] X.env) = [(false, eval e X.env), (false, eval f X.env)]) : PE X (.Call (.Attribute o "get" apos) [e, f] [] cpos) (tDGet2 td ty tx) := pe_dget2 hu ho he hf ⟨b, few, ln, tr⟩
theorem pe_get1 {o e : Expr} {apos cpos : Pos} {td ty : TE} (hu : X.A.units + 1 < cLine) (ho : PE X o td) (he : PE X e ty) (b : attributeBase o "get" X.env (eval o X.env) = eval o X.env)
    (few : ((backTo cpos (starEach [e] X.env)).all (fun x => !x.1) && (backToKw cpos (keywordEach [] X.env)).all (fun x => x.1.isSome) && decide (([e] : List Expr).length + ([] : List Keyword).length + (if ([] : List Keyword).isEmpty then 0 else 1) < 30)) = true)
    (ln : (apos.endLine == cpos.line) = true) (tr : backTo cpos (starEach [e] X.env) = [(false, eval e X.env)]) : PE X (.Call (.Attribute o "get" apos) [e] [] cpos) (tDGet1 td ty) := pe_dget1 hu ho he ⟨b, few, ln, tr⟩
theorem cl_divmod : CallR X (.builtin "divmod") rDivmod := call_divmod
theorem pe_bitAnd {a b : Expr} {ta tb : TE} {pos : Pos} (ha : PE X a ta) (hb : PE X b tb) : PE X (.BinOp a .BitAnd b pos) (tOp (rMeet X.w) ta tb) := pe_op op_meet ha hb
theorem kt_inQ {K : PySem.W.Frag} (m : KMark K) (hK : X.K = K) {a b : Expr} {ta tb : TE} {pos : Pos} (ha : PE X a ta) (hb : PE X b tb) (hm : behindInMarks .In b = false) : PT X (.Compare a [.In] [b] pos) (tTest (tOp (rIn K false) ta tb)) := by
  subst hK
  exact pt_cmpR op_in_seq ha hb hm
theorem kt_ninQ {K : PySem.W.Frag} (m : KMark K) (hK : X.K = K) {a b : Expr} {ta tb : TE} {pos : Pos} (ha : PE X a ta) (hb : PE X b tb) (hm : behindInMarks .NotIn b = false) : PT X (.Compare a [.NotIn] [b] pos) (tTest (tOp (rIn K true) ta tb)) := by
  subst hK
  exact pt_cmpR op_notIn_seq ha hb hm
end
/-! ### the same as data -/
section
variable {K : PySem.W.Frag} {env : En} {ta tb tc : TE}
theorem ev_dget1 {P : En → PyData → Prop} (h : EvE K ta env fun e1 dd => ∃ ds, dd = .dict ds ∧ EvE K tb e1 fun e2 d => ∃ x, d = .str x ∧ P e2 ((lkD x ds).getD .none)) : EvE K (tDGet1 ta tb) env P := fun B σ G H Q I q =>
  h B σ G H _ I fun y G1 H1 e1 d1 p1 x1 I1 r1 => by
    obtain ⟨ds, rfl, p1⟩ := p1
    cases r1 with
    | @dct a kvs ds h1 h2 =>
      refine ⟨a, rfl, .inl ⟨kvs, .inl (I1.exH _ _ h1)⟩, ?_⟩
      refine p1 B σ G1 H1 _ I1 fun z G2 H2 e2 d2 p2 x2 I2 r2 => ?_
      obtain ⟨x, rfl, hp⟩ := p2
      cases r2
      refine ⟨_, DGet.k (k := .inr x) (I2.exH _ _ (x2 _ _ h1)), ?_⟩
      rcases (h2.ex x2).lk (x := x) with ⟨a, b⟩ | ⟨v, d, a, b, rv⟩
      · rw [a]; rw [b] at hp
        exact q _ G2 H2 e2 _ hp (x1.trans x2) I2 .non
      · rw [a]; rw [b] at hp
        exact q _ G2 H2 e2 _ hp (x1.trans x2) I2 rv
/-- the rows of a table at (s, a) -/
theorem ei_rows {steps : List PyData} {i is ia : Nat} {m : ∀ {G G' : Hp} {v : V}, Ex G G' → TabIn steps G v → TabIn steps G' v} {s : Int} {a : Str} {P : En → List PyData → Prop} (h1 : env[i]? = some (some (.fro (TabIn steps) m))) (h2 : env[is]? = some (some (.dat (.int s)))) (h3 : env[ia]? = some (some (.dat (.str a))))
    (hp : P env (rowsAt steps [.inl s, .inr a])) : EvI K (iList K (tDGet2 (tVar i) (tTup (tCons (tVar is) (tCons (tVar ia) tNil))) (tLst tNil))) env P := fun B σ G H R I q => by
  obtain ⟨v, hv, p, kvs, rfl, hG, cells⟩ := I.sl i _ h1
  obtain ⟨vs, hvs, rs⟩ := I.sl is _ h2
  obtain ⟨va, hva, ra⟩ := I.sl ia _ h3
  cases rs; cases ra
  refine ⟨_, hv, p, rfl, .inr ⟨kvs, .inl (I.exH _ _ hG)⟩, _, hvs, _, hva, (by decide : (2 : Nat) ≤ sizeLine), fun b nb => ⟨(by decide : (0 : Nat) ≤ sizeLine), fun c nc => ?_⟩⟩
  have I1 := I.new (o := .tup [.int s, .str a]) nb
  have I2 := I1.new (o := .lst []) nc
  have x1 : Ex G (upd (upd G b (.tup [.int s, .str a])) c (.lst [])) := (Ex.new (I.exH.fresh nb)).trans (Ex.new (I1.exH.fresh nc))
  have hb2 : (upd (upd H b (.tup [.int s, .str a])) c (.lst [])) b = some (.tup (([.inl s, .inr a] : List L2.Key).map kV)) := by rw [upd_ne (ne_of_none upd_same nc), upd_same]; rfl
  refine ⟨_, DGet.t (I2.exH _ _ (x1 _ _ hG)) hb2, ?_⟩
  have cell := cells [.inl s, .inr a]
  cases hc : valV kvs [.inl s, .inr a] with
  | none =>
    rw [hc] at cell
    have e0 : rowsAt steps [.inl s, .inr a] = [] := cell
    rw [e0] at hp
    exact ⟨c, rfl, ⟨[], SqL.of upd_same⟩, q _ _ _ _ _ hp x1 I2 (jok_list upd_same .nil)⟩
  | some v =>
    rw [hc] at cell
    obtain ⟨r, xs, rfl, hr, rd⟩ := cell
    exact ⟨r, rfl, ⟨xs, SqL.of (I2.exH _ _ (x1 _ _ hr))⟩, q _ _ _ _ _ hp x1 I2 (jok_list (x1 _ _ hr) (rd.ex x1))⟩
end
end FD

set_option Elab.async false
set_option linter.all false
set_option maxRecDepth 100000
set_option maxHeartbeats 4000000
namespace FD
open PySem PySem.Spec PyProof.Rows L2
/-! ### list(t) of a tuple; a, b = x, y with x a list of one's own -/
def rLstT (K : PySem.W.Frag) : List V → Hp → VK → Prop := fun xs H Q => ∃ p ys, xs = [.ref p] ∧ (SqL K H p ys ∨ SqT K H p ys) ∧ ∀ l, H l = none → Q (.ref l) (upd H l (.lst ys))
theorem cl_listT {X : Cx} : CallR X (.type "list") (rLstT X.K) := call_list_of
section
variable {K : PySem.W.Frag} {env : En} {O : Outs} {i j : Nat} {te ta : TE}
theorem eow_listT {P : En → List PyData → Prop} (h : EvE K te env fun e d => ∃ ds, d = .tuple ds ∧ P e ds) : EvOwn K (tCB (rLstT K) (tCons te tNil)) env P := fun B σ G H Q I q =>
  h B σ G H _ I fun x G1 H1 e1 d1 p1 x1 I1 r1 => by
    obtain ⟨ds, rfl, hp⟩ := p1
    cases r1 with
    | tup h1 r1 =>
      refine ⟨_, _, rfl, .inr (SqT.of (I1.exH _ _ h1)), fun l nl => ?_⟩
      obtain ⟨b, s⟩ := I1.fresh nl
      exact q l G1 _ e1 ds hp x1 (I1.more nl) (I1.exH.fresh nl) ⟨_, upd_same, r1⟩ b s
/-- the first is a list of one's own -/
theorem es_parOwn1 (h : EvOwn K ta env fun e1 ds => EvE K te e1 fun e2 d => ∀ p : Addr, O.nx ((e2.set i (some (.own p ds))).set j (some (.dat d)))) : EvS K (tPar i j (tCons ta (tCons te tNil))) env O := fun B σ G H D I a b c d f => by
  refine h B σ G H _ I fun p G1 H1 e1 ds p1 x1 I1 g1 ⟨xs, h1, r1⟩ b1 n1 => ?_
  have mp : ¬ B.mu p := fun m => by obtain ⟨o, ho⟩ := I1.mus p m; rw [b1] at ho; cases ho
  have gB : B.G p = none := I1.exG.fresh g1
  refine p1 ⟨upd B.H p (.lst xs), B.G, B.mu⟩ σ G1 H1 _ (EnvOk.hide I1 h1 g1 n1 mp) fun v G2 H2 e2 d2 p2 x2 I2 r2 => ?_
  obtain ⟨I3, hp, gp, sp⟩ := I2.unhide b1 mp gB
  exact ⟨.ref p, v, rfl, a _ G2 H2 _ (p2 p) (x1.trans x2) ((I3.setO (i := i) (s := .own p ds) ⟨rfl, gp, xs, hp, r1.ex x2⟩ rfl b1 sp).setD r2)⟩
end
end FD

set_option Elab.async false
set_option linter.all false
set_option maxRecDepth 100000
set_option maxHeartbeats 4000000
namespace FD
open PySem PySem.Spec PyProof.Rows L2
/-! ### looks at a list of one's own that leave it so; a list comprehension with a target of two names -/
section
variable {K : PySem.W.Frag} {env : En} {i j : Nat} {wi : TI} {te : TE} {P : En → PyData → Prop}
theorem ev_isiOwn {n : String} {p : Addr} {ds : List PyData} (hn : n = "int" ∨ n = "bool" ∨ n = "str" ∨ n = "tuple" ∨ n = "list") (hi : env[i]? = some (some (.own p ds))) (h : P env (.bool (isTy n (.list ds)))) : EvE K (tCB (rIsi K) (tCons (tVar i) (tCons (tC (.ty n)) tNil))) env P := fun B σ G H Q I q => by
  obtain ⟨v, hv, rfl, g, xs, hx, r⟩ := I.sl i _ hi
  have rd : Dd H (.ref p) (.list ds) := .lst hx (r.ex I.exH)
  exact ⟨_, hv, .ref p, .ty n, _, _, isTy n (.list ds), rfl, .ty n, rd.tyx (Ex.refl H), kit_is hn, q _ G H env _ h (Ex.refl G) I (.bl _)⟩
theorem ev_reprOwn {p : Addr} {ds : List PyData} (hi : env[i]? = some (some (.own p ds))) (o : ReprOk (.list ds)) (h : P env (.str (PyData.list ds).shown)) : EvE K (tCB (rRepr K) (tCons (tVar i) tNil)) env P := fun B σ G H Q I q => by
  obtain ⟨v, hv, rfl, g, xs, hx, r⟩ := I.sl i _ hi
  have rd : Dd H (.ref p) (.list ds) := .lst hx (r.ex I.exH)
  exact ⟨_, hv, _, rfl, .inr (.inr ⟨p, _, rfl, Dd.dp (K := K) _ _ o.nd rd, o.sh, o.hd, o.dp, o.sz, q _ G H env _ h (Ex.refl G) I (.str _)⟩)⟩
theorem ev_mapT {xs : List PyData} (F : PyData → PyData) (h0 : EvI K wi env fun e1 ys => e1 = env ∧ ys = xs) (he0 : ∀ k s, env[k]? = some (some s) → k ∉ [i, j]) (he : wipeE env [i, j] = env)
    (hey : ∀ a b, wipeE ((env.set i (some (.dat a))).set j (some (.dat b))) [i, j] = env) (hl : xs.length ≤ 100000)
    (hel : ∀ d ∈ xs, ∃ a b, d = .tuple [a, b] ∧ EvE K te ((env.set i (some (.dat a))).set j (some (.dat b))) fun e y => e = (env.set i (some (.dat a))).set j (some (.dat b)) ∧ y = F d)
    (q : P env (.list (xs.map F))) : EvE K (tLc wi (gTup K 2 (gCons (gName i) (gCons (gName j) gNil))) tYes te [i, j]) env P := fun B σ G H Q I qq => by
  refine h0 B σ G H _ I fun J G1 H1 e1 ys ⟨p1, p2⟩ x1 I1 jk D nD => ?_
  subst p1 p2
  have gD : G1 D = none := I1.exH.fresh nD
  obtain ⟨bD, sD⟩ := I1.fresh nD
  have mD : ¬ B.mu D := fun m => by obtain ⟨o, ho⟩ := I1.mus D m; rw [bD] at ho; cases ho
  have gB : B.G D = none := I1.exG.fresh gD
  have big : (100000 : Nat) < sizeLine := by decide
  have start : EnvOk K ⟨upd B.H D (.lst []), B.G, B.mu⟩ G1 (upd H1 D (.lst [])) (wipe σ [i, j]) e1 := by
    have := (I1.more (o := .lst []) nD).wiped [i, j]
    rw [he] at this
    exact EnvOk.hide this upd_same gD sD mD
  let St := fun (n : Nat) (H2 : Hp) => n ≤ ys.length ∧ ∃ (G2 : Hp) (av : List V), Ex G1 G2 ∧ DdAll G2 av ((ys.take n).map F) ∧ EnvOk K ⟨upd B.H D (.lst av), B.G, B.mu⟩ G2 H2 (wipe σ [i, j]) e1
  refine ⟨fun n m H2 => m = ys.length - n ∧ St n H2, ⟨_, rfl, Nat.zero_le _, G1, [], Ex.refl _, .nil, start⟩, ?_⟩
  rintro n m H2 ⟨rfl, hn, G2, av, x2, ra, I2⟩
  obtain ⟨jg, js⟩ := jk G2 H2 x2 I2.exH
  by_cases hlt : n < ys.length
  · obtain ⟨go, yl⟩ := jg n ys[n] (List.getElem?_eq_getElem hlt)
    refine .inr ⟨go, St (n + 1), fun H3 s3 => ⟨ys.length - (n + 1), by omega, rfl, s3⟩, fun x H3 y => ?_⟩
    obtain ⟨e, r⟩ := yl x H3 y
    subst e
    have tk : (ys.take (n + 1)).map F = (ys.take n).map F ++ [F ys[n]] := by
      rw [← List.take_append_getElem hlt, List.map_append]; rfl
    obtain ⟨a, b, ed, ev⟩ := hel _ (List.getElem_mem hlt)
    generalize hdd : ys[n] = d at r ed ev tk
    subst ed
    cases r with
    | @tup c _ _ hc rc =>
      cases rc with
      | @cons v1 _ _ _ r1 rc =>
        obtain ⟨v2, rfl, r2⟩ := rc.one
        have I3 := (I2.setD (i := i) r1).setD (i := j) r2
        have bk : wipe (((wipe σ [i, j]).set i (some v1)).set j (some v2)) [i, j] = wipe σ [i, j] := by rw [wipe_set (by simp), wipe_set (by simp), wipe_sub fun _ z => z]
        refine ⟨c, _, rfl, SqT.of (I2.exH _ _ hc), rfl, v1, [v2], rfl, v2, [], rfl, rfl, bk, ?_⟩
        delta tYes
        refine iteT (ev _ _ G2 H3 _ I3 fun yv G5 H5 e5 yd ⟨p5, p6⟩ x5 I5 r5 => ?_)
        subst p5 p6
        have hD5 : H5 D = some (.lst av) := I5.keep D _ upd_same mD
        refine ⟨av, hD5, by rw [ra.length, List.length_map, List.length_take]; omega, hlt, G5, av ++ [yv], x2.trans x5, ?_, ?_⟩
        · rw [tk]
          exact (ra.ex x5).append (.cons r5 .nil)
        · have := (I5.rehide (o' := .lst (av ++ [yv])) bD mD gB).wiped [i, j]
          rw [bk, hey] at this
          exact this
  · have e : n = ys.length := by omega
    subst e
    rw [List.take_length] at ra
    obtain ⟨I6, hD5, gD5, sD5⟩ := I2.unhide bD mD gB
    have I7 := (I6.unwiped he0).freeze hD5 gD5 sD5 bD
    exact .inl ⟨js, qq _ _ _ _ _ q ((x1.trans x2).trans (Ex.new gD5)) I7 (.lst upd_same (ra.ex (Ex.new gD5)))⟩
end
theorem km_lcT {X : Cx} {K : PySem.W.Frag} (m : KMark K) (hK : X.K = K) {i j : Nat} {y1 y2 : Str} {p1 p2 pt pos : Pos} {kt : Nat} {elt iter : Expr} {scope : Scope} {wi : TI} {te : TE} (hc : X.calm = true) (hN : X.N.Nodup)
    (hg : ∀ (s : Shared) (H : Hp) (C : Addr) (cl : List (Str × Addr)) (fp : List Addr), PG (X.blk s H scope (compEnvC scope cl C X.env) fp) (.Tuple [.Name y1 p1, .Name y2 p2] kt pt) (gTup K 2 (gCons (gName i) (gCons (gName j) gNil))))
    (ok : blkC X.N X.env.scope scope [(y1, i), (y2, j)] = true) (hi : PI X (.Tuple [.Name y1 p1, .Name y2 p2] kt pt) iter wi)
    (he : ∀ (s : Shared) (H : Hp) (C : Addr) (cl : List (Str × Addr)) (fp : List Addr), PE (X.blk s H scope (compEnvC scope cl C X.env) fp) elt te)
    (hs : ∀ z, foldedSetIterable iter X.env z = pure z) :
    PE X (.ListComp elt [⟨.Tuple [.Name y1 p1, .Name y2 p2] kt pt, iter, [], 0⟩] scope pos) (tLc wi (gTup K 2 (gCons (gName i) (gCons (gName j) gNil))) tYes te [i, j]) :=
  pe_lc (own := [(y1, i), (y2, j)]) hc hN hi (blkOk_by ok) hg (fun _ _ _ _ _ => pts_nil) he hs
end FD

set_option Elab.async false
set_option linter.all false
set_option maxRecDepth 100000
set_option maxHeartbeats 4000000
namespace FD
open PySem PySem.Spec PyProof.Rows L2
/-! ### a, b, c = x, y, z of locals -/
theorem ps_parv3 {X : Cx} {N : List Str} {i j l : Nat} {x y z : Str} {a b c : Expr} {ta : TA} {px py pz pt pos : Pos} {kt k2 pt2} (hi : N[i]? = some x) (hj : N[j]? = some y) (hl : N[l]? = some z) (nd : N.Nodup) (hX : X.N = N) (hc : X.calm = true) (hij : i ≠ j) (hil : i ≠ l) (hjl : j ≠ l)
    (hx : X.env.scope.names.lookup x = some .local) (hy : X.env.scope.names.lookup y = some .local) (hz : X.env.scope.names.lookup z = some .local) (ha : PA X [a, b, c] ta)
    (hw : swappedStores [.Tuple [.Name x px, .Name y py, .Name z pz] kt pt] (.Tuple [a, b, c] k2 pt2) X.env = pure (some [x, y, z])) (hs : swapsWithSole [.Tuple [.Name x px, .Name y py, .Name z pz] kt pt] (.Tuple [a, b, c] k2 pt2) pos.line X.env = pure false) :
    PS X (.Assign [.Tuple [.Name x px, .Name y py, .Name z pz] kt pt] (.Tuple [a, b, c] k2 pt2) pos) (tPar3 i j l ta) := by
  subst hX
  exact ps_par3 hc nd hi hj hl hij hil hjl hx hy hz ha hw hs
theorem es_par3 {K : PySem.W.Frag} {env : En} {O : Outs} {i j l : Nat} {ta : TA} (h : EvAs K ta env fun e1 ds => ∃ a b c, ds = [a, b, c] ∧ O.nx (((e1.set i (some (.dat a))).set j (some (.dat b))).set l (some (.dat c)))) : EvS K (tPar3 i j l ta) env O := fun B σ G H D I a b c d f =>
  h B σ G H _ I fun vs G1 H1 e1 ds p1 x1 I1 r => by
    obtain ⟨u, v, w, rfl, nx⟩ := p1
    cases r with
    | cons r1 r =>
      obtain ⟨x, y, rfl, r2, r3⟩ := r.two
      exact ⟨_, x, y, rfl, a _ G1 _ _ nx x1 (((I1.setD r1).setD r2).setD r3)⟩
end FD

set_option Elab.async false
set_option linter.all false
set_option maxRecDepth 100000
set_option maxHeartbeats 4000000
namespace FD
open PySem PySem.Spec PyProof.Rows L2
/-- its first argument is data, the second a thing that nobody changes, told by F -/
def spMT {α : Type} (F : α → Hp → V → Prop) (n : Nat) (pre : PyData → α → List PyData → Prop) (post : PyData → α → List PyData → List PyData → Prop) : Sp := fun vs H Q _ => ∃ (G : Hp) (M : PyData) (x : α) (u v : V) (rest : List V) (ds : List PyData), vs = u :: v :: rest ∧ Ex G H ∧ Dd G u M ∧ F x G v ∧ DdAll G rest ds ∧ ds.length = n ∧ pre M x ds ∧
  ∀ p G' H' es, post M x ds es → Ex G G' → Ex G' H' → Ex H H' → (∀ q o, H q = some o → G q = none → G' q = none) → H p = none → G' p = none → OwnAt G' H' p es → Q (.ref p) H'
section
variable {K : PySem.W.Frag} {env : En} {ta ta1 ta2 : TA} {n n1 n2 : Nat}
theorem eow_callMT {α : Type} {F : α → Hp → V → Prop} (mo : ∀ (x : α) {G G' : Hp} {v : V}, Ex G G' → F x G v → F x G' v) {F1 : List PyData → Hp → V → Prop} {pre1 : List PyData → Prop} {pre2 : PyData → α → List PyData → Prop} {post : PyData → α → List PyData → List PyData → Prop} {P : En → List PyData → Prop}
    {im : Nat} {M : PyData} (hi : env[im]? = some (some (.dat M)))
    (h : EvAs K ta1 env fun e1 ds => ds.length = n1 ∧ pre1 ds ∧ ∃ x, (∀ G v, F1 ds G v → F x G v) ∧ EvAs K ta2 e1 fun e2 es => es.length = n2 ∧ pre2 M x es ∧ ∀ zs, post M x es zs → P e2 zs) :
    EvOwn K (tCB (callOf (spMT F n2 pre2 post)) (tCons (tVar im) (tCons (tCB (callOf (spR n1 pre1 F1)) ta1) ta2))) env P := fun B σ G H Q I q => by
  obtain ⟨u, hu, rM0⟩ := I.sl im _ hi
  have rM : Dd G u M := rM0
  refine ⟨u, hu, ?_⟩
  refine h B σ G H _ I fun vs1 G1 H1 e1 ds p1 x1 I1 r1 => ?_
  obtain ⟨l1, q1, x, cv, p2⟩ := p1
  refine ⟨G1, ds, I1.exH, r1, l1, q1, fun v G2 H2 hF x2 x3 x4 fr => ?_⟩
  have I2 := I1.went x2 x3 x4 fr
  refine p2 B σ G2 H2 _ I2 fun ws G3 H3 e3 es p3 x5 I3 r3 => ?_
  refine ⟨G3, M, x, u, v, ws, es, rfl, I3.exH, rM.ex ((x1.trans x2).trans x5), mo x x5 (cv _ _ hF), r3, p3.1, p3.2.1, fun p G4 H4 zs pe x6 x7 x8 fr2 np gp w => ?_⟩
  have I4 := I3.went x6 x7 x8 fr2
  obtain ⟨b, s⟩ := I3.fresh np
  exact q p G4 H4 e3 zs (p3.2.2 zs pe) (((x1.trans x2).trans x5).trans x6) I4 gp w b s
end
section
variable {P : Program} {w : World} {K : PySem.W.Frag} {mg : Str → Option Value} {base : Heap} {x qual : Str} {st : Stmt} {f : Addr} {fd : FuncData} {N ps : List Str} {k : Nat}
theorem startMT {α : Type} {Fa : α → Hp → V → Prop} {x : α} (m : ∀ {G G' : Hp} {v : V}, Ex G G' → Fa x G v → Fa x G' v) {G H : Hp} {u v : V} {M : PyData} {vs : List V} {ds : List PyData} (e : Ex G H) (hM : Dd G u M) (hF : Fa x G v) (r : DdAll G vs ds) :
    EnvOk K ⟨H, G, fun _ => False⟩ G H (start N (u :: v :: vs)) (some (.dat M) :: some (.fro (Fa x) m) :: stD (N.length - 2) ds) := by
  have hs : ∀ (i : Nat) (s : Sl), (some (Sl.dat M) :: some (Sl.fro (Fa x) m) :: stD (N.length - 2) ds)[i]? = some (some s) → (i = 0 ∧ s = .dat M) ∨ (i = 1 ∧ s = .fro (Fa x) m) ∨ ∃ j d, i = j + 2 ∧ ds[j]? = some d ∧ s = .dat d := fun i s h => by
    cases i with
    | zero => rw [List.getElem?_cons_zero] at h; cases h; exact .inl ⟨rfl, rfl⟩
    | succ j =>
      rw [List.getElem?_cons_succ] at h
      cases j with
      | zero => rw [List.getElem?_cons_zero] at h; cases h; exact .inr (.inl ⟨rfl, rfl⟩)
      | succ j =>
        rw [List.getElem?_cons_succ] at h
        obtain ⟨d, hd, rfl⟩ := stD_get h
        exact .inr (.inr ⟨j, d, rfl, hd, rfl⟩)
  refine ⟨e, Ex.refl G, fun _ _ a _ => a, fun _ _ _ a => a, fun _ o a => ⟨o, a⟩, fun _ z => z.elim, ?_, fun i s h => ?_, fun i s q h a => ?_, fun i j s t q h1 h2 a1 a2 => ?_⟩
  · rw [start_len, List.length_cons, List.length_cons, List.length_cons, List.length_cons, stD_len, r.length]; omega
  · rcases hs i s h with ⟨rfl, rfl⟩ | ⟨rfl, rfl⟩ | ⟨j, d, rfl, hd, rfl⟩
    · exact ⟨u, rfl, hM⟩
    · exact ⟨v, rfl, hF⟩
    · obtain ⟨v, hv, rv⟩ := r.get hd
      exact ⟨v, start_get (by rw [List.getElem?_cons_succ, List.getElem?_cons_succ]; exact hv), rv⟩
  · rcases hs i s h with ⟨rfl, rfl⟩ | ⟨rfl, rfl⟩ | ⟨j, d, rfl, hd, rfl⟩ <;> cases a
  · rcases hs i s h1 with ⟨rfl, rfl⟩ | ⟨rfl, rfl⟩ | ⟨_, _, _, _, rfl⟩ <;> cases a1
theorem fnMT {α : Type} {Fa : α → Hp → V → Prop} (m : ∀ (x : α) {G G' : Hp} {v : V}, Ex G G' → Fa x G v → Fa x G' v) (F : L2.Fun K x qual st f fd) (S : FnScope N ps (defScope st)) (hps : 2 ≤ ps.length) (pre : PyData → α → List PyData → Prop) (post : PyData → α → List PyData → List PyData → Prop)
    (hb : ∀ (cdv : Value) (A : Around) (outer : List PySem.Env) (s : Shared) (H : Hp), A.guards = some [] → Room k (A.deeper (envOfC qual (defScope st) s.heap.objs.size f cdv)) →
      ∃ t, PSs (cxOf CX0 P w K mg base N qual (defScope st) f cdv A outer s H E0).nox (defBody st) t ∧
        ∀ (M : PyData) (x : α) (ds : List PyData), ds.length = ps.length - 2 → pre M x ds → EvS K t (some (.dat M) :: some (.fro (Fa x) (m x)) :: stD (N.length - 2) ds) { nx := fun _ => False, rn := fun F _ => ∃ es, post M x ds es ∧ F = OwnF es }) :
    FnG P w K mg base (k + 1) f fd ps (spMT Fa (ps.length - 2) pre post) := by
  refine fnG_of F S (fun vs H Q E ⟨G, M, x, u, v, rest, ds, hv, _, _, _, r, hl, _⟩ => ?_) fun cdv A outer s H vs Q hg hr ⟨G, M, x, u, v, rest, ds, hv, e, hM, hF, r, hl, hp, q⟩ => ?_
  · rw [hv, List.length_cons, List.length_cons, r.length, hl]
    omega
  subst hv
  obtain ⟨t, ht, ev⟩ := hb cdv A outer s H hg hr
  refine ⟨t, ht, ev M x ds hl hp _ _ G H _ (startMT (m x) e hM hF r) (fun _ _ _ _ z => z.elim) (fun _ _ _ _ _ _ z => z.elim) (fun _ _ _ _ z => z.elim) (fun _ _ _ _ z => z.elim) (fun F a σ' G' H' env' hF x' I ga wa ba => ?_)⟩
  obtain ⟨es, hp', rfl⟩ := hF
  exact q a G' H' es hp' x' I.exH (fun a o h => I.keep a o h fun z => z) (fun a o h g => I.nog a o h g) ba ga wa
end
end FD

set_option Elab.async false
set_option linter.all false
set_option maxRecDepth 100000
set_option maxHeartbeats 4000000
namespace FD
open PySem PySem.Spec PyProof.Rows L2
/-! ### sorted(d), d a dict of one's own whose keys are texts -/
def rSortD : List V → Hp → VK → Prop := fun xs H Q => ∃ (a : Addr) (kvs : List (Key × V)) (ks : List Str), xs = [.ref a] ∧ Rd H a (.dK kvs) ∧ kvs.map (·.1) = ks.map Sum.inr ∧ ks.length < 64 ∧
    ∀ ys p, ys.Perm ks → sortedS ys = true → H p = none → Q (.ref p) (upd H p (.lst (ys.map V.str)))
theorem cl_sortD {X : Cx} (hc : X.calm = true) : CallR X (.builtin "sorted") rSortD := call_sortedD hc
def keyS : PyData × PyData → Str
  | (.str x, _) => x
  | _ => ""
theorem keys_of {G : Hp} : ∀ {kvs : List (Key × V)} {ds : List (PyData × PyData)}, DdKv G kvs ds → ds.all isSI = true → kvs.map (·.1) = (ds.map keyS).map Sum.inr
  | _, _, .nil, _ => rfl
  | _, _, .cons (k := k) (d := d) r t, a => by
    have a' : (isSI (kD k, d) && List.all _ isSI) = true := a
    rw [Bool.and_eq_true] at a'
    cases k with
    | inl i => exact absurd a'.1 Bool.false_ne_true
    | inr x =>
      show Sum.inr x :: _ = Sum.inr x :: _
      rw [keys_of t a'.2]
section
variable {K : PySem.W.Frag} {env : En} {O : Outs} {i j : Nat} {te ta tb : TE}
theorem ev_sortD {P : En → PyData → Prop} {p : Addr} {ds : List (PyData × PyData)} (hi : env[i]? = some (some (.odc p ds))) (a : ds.all isSI = true) (few : ds.length < 64) (q : ∀ ys : List Str, ys.Perm (ds.map keyS) → sortedS ys = true → P env (.list (ys.map .str))) :
    EvE K (tCB rSortD (tCons (tVar i) tNil)) env P := fun B σ G H Q I k => by
  obtain ⟨v, hv, rfl, g, kvs, hx, r⟩ := I.sl i _ hi
  refine ⟨_, hv, p, kvs, ds.map keyS, rfl, .inl hx, keys_of r a, by rw [List.length_map]; exact few, fun ys l pm so nl => ?_⟩
  exact k _ _ _ env _ (q ys pm so) (Ex.new (I.exH.fresh nl)) (I.new nl) (.lst upd_same (strs_dd _ ys))
/-- d[x] of a dict of one's own -/
theorem ev_dgetO {P : En → PyData → Prop} {p : Addr} {ds : List (PyData × PyData)} (h0 : env[i]? = some (some (.odc p ds))) (h : EvE K tb env fun e2 d => ∃ x f, d = .str x ∧ e2[i]? = some (some (.odc p ds)) ∧ lkD x ds = some f ∧ P e2 f) : EvE K (tDGet (tVar i) tb) env P := fun B σ G H Q I q => by
  obtain ⟨v, hv, rfl, _⟩ := I.sl i _ h0
  refine ⟨_, hv, ?_⟩
  refine h B σ G H _ I fun z G2 H2 e2 d2 p2 x2 I2 r2 => ?_
  obtain ⟨x, f, rfl, hi, hf, pf⟩ := p2
  cases r2
  obtain ⟨_, _, e, g, kvs, hk, rk⟩ := I2.sl i _ hi
  rcases rk.lk (x := x) with ⟨a, b⟩ | ⟨u, d, a, b, ru⟩
  · rw [hf] at b; cases b
  · rw [hf] at b; cases b
    refine ⟨p, u, rfl, ?_, q u G2 H2 e2 _ pf x2 I2 ru⟩
    rw [← a]
    exact DGet.k (k := .inr x) hk
/-- x, y = [], {z: k} -/
theorem es_parOO {z : Str} {k : Int} (h : ∀ p q : Addr, O.nx ((env.set i (some (.own p []))).set j (some (.odc q [(.str z, .int k)])))) : EvS K (tPar i j (tCons (tLst tNil) (tCons (tDisp [(tC (.str z), tC (.int k))]) tNil))) env O := fun B σ G H D I a b c d f => by
  have own := es_own (K := K) (i := i) (env := env) (O := { O with nx := fun e => EvS K (tAsg (tDisp [(tC (.str z), tC (.int k))]) (gName j)) e O }) fun p => es_odc fun q => h p q
  obtain ⟨l, w⟩ := own B σ G H { D with nx := fun σ' H' => (tAsg (tDisp [(tC (.str z), tC (.int k))]) (gName j)) D σ' H' } I (fun σ1 G1 H1 e1 n x1 I1 =>
    n B σ1 G1 H1 D I1 (fun σ2 G2 H2 e2 n x2 => a σ2 G2 H2 e2 n (x1.trans x2)) (fun v G2 H2 σ2 e2 f2 p2 x2 => b v G2 H2 σ2 e2 f2 p2 (x1.trans x2)) (fun σ2 G2 H2 e2 p2 x2 => c σ2 G2 H2 e2 p2 (x1.trans x2))
      (fun σ2 G2 H2 e2 p2 x2 => d σ2 G2 H2 e2 p2 (x1.trans x2)) (fun F p σ2 G2 H2 e2 p2 x2 => f F p σ2 G2 H2 e2 p2 (x1.trans x2))) b c d f
  refine ⟨l, fun p np q nq => ?_⟩
  obtain ⟨h1, kvs, e1, l1, g⟩ := w p np q nq
  exact ⟨h1, kvs, e1, l1, .ref p, .ref q, rfl, g⟩
end
theorem rc_divmod {K : PySem.W.Frag} {env : En} {P : PyData → Prop} {i j : Int} (h : CDiv i j) (p : P (.tuple [.int (i / j), .int (i % j)])) : RC K rDivmod env [.int i, .int j] P := fun B σ G H xs Q I rx q => by
  obtain ⟨x, y, rfl, rx, ry⟩ := rx.two
  cases rx; cases ry
  exact ⟨i, j, rfl, h, fun l nl => q _ _ _ _ p (Ex.new (I.exH.fresh nl)) (I.new nl) (.tup upd_same (.cons (.int _) (.cons (.int _) .nil)))⟩
/-- the same by way of a tuple -/
theorem es_tupOO {K : PySem.W.Frag} {env : En} {O : Outs} {i j : Nat} {z : Str} {k : Int} {n : Nat} (hn : n = 2) (h : ∀ p q : Addr, O.nx ((env.set i (some (.own p []))).set j (some (.odc q [(.str z, .int k)])))) : EvS K (tAsg (tTup (tCons (tLst tNil) (tCons (tDisp [(tC (.str z), tC (.int k))]) tNil))) (gTup K n (gCons (gName i) (gCons (gName j) gNil)))) env O := fun B σ G H D I a b c d f => by
  subst hn
  have par := es_parOO (K := K) (env := env) (i := i) (j := j) (z := z) (k := k) (O := O) h B σ G H { D with nx := fun σ2 H2 => ∀ r, H2 r = none → ∀ vs, D.nx σ2 (upd H2 r (.tup vs)) } I (fun σ2 G2 H2 e2 n x2 I2 r nr vs => a σ2 G2 _ e2 n x2 (I2.more nr)) b c d f
  obtain ⟨l, w⟩ := par
  refine ⟨l, fun p np q nq => ?_⟩
  obtain ⟨h1, kvs, e1, l1, v, w', e2, g⟩ := w p np q nq
  cases e2
  exact ⟨h1, kvs, e1, l1, (by decide : (2 : Nat) ≤ sizeLine), fun r nr => ⟨r, _, rfl, SqT.of upd_same, rfl, _, _, rfl, _, _, rfl, rfl, g r nr _⟩⟩
/-! ### in, of texts -/
def isK3 (k : Str) : PyData → Bool
  | .str j => decide (j = k)
  | _ => false
def hasS (k : Str) (ds : List PyData) : Bool := ds.any (isK3 k)
def isStr : PyData → Bool
  | .str _ => true
  | _ => false
theorem inV_strs {G : Hp} {k : Str} : ∀ {xs : List V} {ds : List PyData}, DdAll G xs ds → ds.all isStr = true → xs.all flatV = true ∧ inV (.str k) xs = hasS k ds
  | _, _, .nil, _ => ⟨rfl, rfl⟩
  | _, _, .cons (d := d) r t, a => by
    have a' : (isStr d && List.all _ isStr) = true := a
    rw [Bool.and_eq_true] at a'
    obtain ⟨h1, h2⟩ := inV_strs (k := k) t a'.2
    cases d with
    | str j =>
      cases r
      refine ⟨by rw [List.all_cons, h1]; rfl, ?_⟩
      show ((j == k) || inV _ _) = (decide (j = k) || hasS k _)
      rw [h2]
      congr 1
    | _ => exact absurd a'.1 Bool.false_ne_true
theorem rd_inL {K : PySem.W.Frag} {env : En} {P : PyData → Prop} {k : Str} {ds : List PyData} {n : Bool} (a : ds.all isStr = true) (p : P (.bool (if n then !hasS k ds else hasS k ds))) : RD K (rIn K n) env (.str k) (.list ds) P := rd_keep p fun G H x y Q x1 rx ry q => by
  cases rx
  cases ry with
  | lst h1 h2 =>
    obtain ⟨e1, e2⟩ := inV_strs (k := k) h2 a
    refine ⟨_, _, rfl, .inl (SqL.of (x1 _ _ h1)), rfl, e1, ?_⟩
    rw [e2]; exact q _ (.bl _)
/-! ### "x".join(a list of texts) -/
def rJoin (K : PySem.W.Frag) : V → List V → Hp → VK → Prop := fun x xs H Q => ∃ a p, ∃ ys : List Str, x = .str a ∧ xs = [.ref p] ∧ (SqL K H p (ys.map V.str) ∨ SqT K H p (ys.map V.str)) ∧
    (ys.map (·.length)).sum + ys.length * a.length ≤ 16777216 ∧ Q (.str (Txt.join a ys)) H
theorem mt_joinK {X : Cx} : MtR X "str.join" (rJoin X.K) := mt_join
theorem km_join {X : Cx} {K : PySem.W.Frag} (m : KMark K) (hK : X.K = K) {o e : Expr} {te : TE} {t : TA} {apos cpos : Pos} (ho : PE X o te) (ha : PA X [e] t)
    (h1 : attributeBase o "join" X.env (eval o X.env) = eval o X.env)
    (h2 : ((backTo cpos (starEach [e] X.env)).all (fun x => !x.1) && (backToKw cpos (keywordEach [] X.env)).all (fun x => x.1.isSome) && decide (([e] : List Expr).length + ([] : List Keyword).length + (if ([] : List Keyword).isEmpty then 0 else 1) < 30)) = true)
    (h3 : (apos.endLine == cpos.line) = true) (h4 : starEach [e] X.env = (false, eval e X.env) :: starEach [] X.env) (h5 : (backTo cpos (starEach [] X.env)).any (·.1) = false) :
    PE X (.Call (.Attribute o "join" apos) [e] [] cpos) (tBM K "str" (rJoin K) te t) := by
  subst hK
  exact pe_bm F.plainAttrs_str F.slot_str_join F.type_str_join mt_joinK ho ha h1 h2 h3 h4 h5
theorem strs_dd' {G : Hp} : ∀ {xs : List V} {ys : List Str}, DdAll G xs (ys.map PyData.str) → xs = ys.map V.str
  | _, [], .nil => rfl
  | _, y :: ys, .cons r t => by
    cases r
    rw [strs_dd' t]; rfl
theorem ev_join {K : PySem.W.Frag} {env : En} {te ta : TE} {P : En → PyData → Prop} (h : EvE K te env fun e1 d => ∃ a : Str, d = .str a ∧ EvE K ta e1 fun e2 f => ∃ ys : List Str, f = .list (ys.map .str) ∧ (ys.map (·.length)).sum + ys.length * a.length ≤ 16777216 ∧ P e2 (.str (Txt.join a ys))) :
    EvE K (tBM K "str" (rJoin K) te (tCons ta tNil)) env P := fun B σ G H Q I q =>
  h B σ G H _ I fun x G1 H1 e1 d1 p1 x1 I1 r1 => by
    obtain ⟨a, rfl, p1⟩ := p1
    cases r1
    refine ⟨rfl, ?_⟩
    refine p1 B σ G1 H1 _ I1 fun y G2 H2 e2 d2 p2 x2 I2 r2 => ?_
    obtain ⟨ys, rfl, hz, hp⟩ := p2
    cases r2 with
    | lst h2 r2 =>
      obtain rfl := strs_dd' r2
      exact ⟨a, _, ys, rfl, rfl, .inl (SqL.of (I2.exH _ _ h2)), hz, q _ G2 H2 e2 _ hp (x1.trans x2) I2 (.str _)⟩
/-! ### y = [e for a, b in xs] -/
theorem km_slcT {X : Cx} {K : PySem.W.Frag} (m : KMark K) (hK : X.K = K) {N : List Str} {i j l : Nat} {y y1 y2 : Str} {py p1 p2 pt pos spos : Pos} {kt : Nat} {elt iter : Expr} {scope : Scope} {wi : TI} {te : TE} (hc : X.calm = true) (hN : X.N.Nodup) (hl : N[l]? = some y) (hX : X.N = N)
    (hy : X.env.scope.names.lookup y = some .local) (hf : X.env.scope.kind = .function) (hli : (py.line == pos.line) = true) (ha : (scope.names.any fun (n, k) => n == y && (k == .local || k == .cell)) = false)
    (hg : ∀ (s : Shared) (H : Hp) (C : Addr) (cl : List (Str × Addr)) (fp : List Addr), PG (X.blk s H scope (compEnvC scope cl C X.env) fp) (.Tuple [.Name y1 p1, .Name y2 p2] kt pt) (gTup K 2 (gCons (gName i) (gCons (gName j) gNil))))
    (ok : blkC X.N X.env.scope scope [(y1, i), (y2, j)] = true) (hi : PI X (.Tuple [.Name y1 p1, .Name y2 p2] kt pt) iter wi)
    (he : ∀ (s : Shared) (H : Hp) (C : Addr) (cl : List (Str × Addr)) (fp : List Addr), PE (X.blk s H scope (compEnvC scope cl C X.env) fp) elt te)
    (hs : ∀ z, foldedSetIterable iter X.env z = pure z) :
    PS X (.Assign [.Name y py] (.ListComp elt [⟨.Tuple [.Name y1 p1, .Name y2 p2] kt pt, iter, [], 0⟩] scope pos) spos) (tAsg (tLc wi (gTup K 2 (gCons (gName i) (gCons (gName j) gNil))) tYes te [i, j]) (gName l)) :=
  ps_setLc (own := [(y1, i), (y2, j)]) hc hN (by rw [hX]; exact hl) hy (sw_true hf hy hli ha) hi (blkOk_by ok) hg (fun _ _ _ _ _ => pts_nil) he hs
end FD

set_option Elab.async false
set_option linter.all false
set_option maxRecDepth 100000
set_option maxHeartbeats 4000000
namespace FD
open PySem PySem.Spec PyProof.Rows L2
/-! ### while -/
section
variable {K : PySem.W.Frag} {env : En} {O : Outs} {t : TS} {tt : TT}
theorem es_while (W : Nat → En → Prop) {m0 : Nat} (w0 : W m0 env) (h : ∀ m e, W m e → EvB K tt e fun e1 c => (c = true → EvS K t e1 { nx := fun e2 => ∃ m', m' < m ∧ W m' e2, rt := O.rt, bk := O.nx, ct := fun e2 => ∃ m', m' < m ∧ W m' e2, rn := O.rn }) ∧ (c = false → O.nx e1)) :
    EvS K (tWhile tt t) env O := fun B σ G H D I a b c d f => by
  refine ⟨fun m σ2 H2 => ∃ G2 e2, W m e2 ∧ Ex G G2 ∧ EnvOk K B G2 H2 σ2 e2, ⟨m0, G, env, w0, Ex.refl _, I⟩, ?_⟩
  rintro m σ2 H2 ⟨G2, e2, w2, x2, I2⟩
  refine h m e2 w2 B σ2 G2 H2 _ I2 fun k G3 H3 e3 p3 x3 I3 => ?_
  cases k with
  | true =>
    refine iteT ⟨fun σ4 H4 => ∃ m', m' < m ∧ ∃ G4 e4, W m' e4 ∧ Ex G G4 ∧ EnvOk K B G4 H4 σ4 e4, fun σ4 H4 ⟨m', lt, q⟩ => ⟨m', lt, q⟩, ?_⟩
    exact p3.1 rfl B σ2 G3 H3 _ I3 (fun σ4 G4 H4 e4 ⟨m', lt, w4⟩ x4 I4 => ⟨m', lt, G4, e4, w4, (x2.trans x3).trans x4, I4⟩) (fun v G4 H4 σ4 e4 d4 p4 x4 I4 r4 => b v G4 H4 σ4 e4 d4 p4 ((x2.trans x3).trans x4) I4 r4)
      (fun σ4 G4 H4 e4 p4 x4 I4 => a σ4 G4 H4 e4 p4 ((x2.trans x3).trans x4) I4) (fun σ4 G4 H4 e4 ⟨m', lt, w4⟩ x4 I4 => ⟨m', lt, G4, e4, w4, (x2.trans x3).trans x4, I4⟩) (fun F q σ4 G4 H4 e4 p4 x4 => f F q σ4 G4 H4 e4 p4 ((x2.trans x3).trans x4))
  | false => exact iteF (a σ2 G3 H3 e3 (p3.2 rfl) (x2.trans x3) I3)
end
/-! ### max(xs) and max(xs, default=d) of a list of ints -/
def rMaxDef (K : PySem.W.Frag) : List V → List V → Hp → VK → Prop := fun vs zs H Q => ∃ (a : Addr) (ns : List Int) (d : Int), vs = [V.ref a] ∧ zs = [V.int d] ∧ SqL K H a (ns.map V.int) ∧ (ns = [] → Q (.int d) H) ∧ (ns ≠ [] → ∀ m, m ∈ ns → (∀ y ∈ ns, y ≤ m) → Q (.int m) H)
theorem maxOf_int : ∀ (xs : List Int) (x : Int), PySem.W.maxOf x xs ∈ x :: xs ∧ ∀ y ∈ x :: xs, y ≤ PySem.W.maxOf x xs
  | [], x => ⟨List.mem_cons_self, fun y hy => by rw [List.mem_singleton.mp hy]; exact Int.le_refl _⟩
  | z :: xs, x => by
    have un : PySem.W.maxOf x (z :: xs) = PySem.W.maxOf (if decide (x < z) = true then z else x) xs := rfl
    obtain ⟨h1, h2⟩ := maxOf_int xs (if decide (x < z) = true then z else x)
    rw [un]
    refine ⟨?_, fun y hy => ?_⟩
    · rcases List.mem_cons.mp h1 with h | h
      · rw [h]
        split
        · exact List.mem_cons_of_mem _ List.mem_cons_self
        · exact List.mem_cons_self
      · exact List.mem_cons_of_mem _ (List.mem_cons_of_mem _ h)
    · have h3 := h2 _ List.mem_cons_self
      rcases List.mem_cons.mp hy with rfl | hy
      · by_cases q : y < z
        · rw [decide_eq_true q, if_pos rfl] at h3 ⊢; omega
        · rw [decide_eq_false q, if_neg Bool.false_ne_true] at h3 ⊢; exact h3
      · rcases List.mem_cons.mp hy with rfl | hy
        · by_cases q : x < y
          · rw [decide_eq_true q, if_pos rfl] at h3 ⊢; exact h3
          · rw [decide_eq_false q, if_neg Bool.false_ne_true] at h3 ⊢; omega
        · exact h2 y (List.mem_cons_of_mem _ hy)
theorem cr_maxDef {X : Cx} {k : Nat} (hc : X.calm = true) (hr : Room k X.A) : CallRK X (.builtin "max") [Str.ofString "default"] (rMaxDef X.K) := by
  intro pins s σ H vs zs us ws Q I r rz h
  obtain ⟨a, ns, d, rfl, rfl, hs, q0, q1⟩ := h
  obtain ⟨its, rv, hl, _⟩ := I.list hs
  rw [Vals.ref1 r]
  cases rz with
  | cons rd rt =>
    cases rt
    obtain ⟨t, rfl⟩ := rd
    have hi : IntsAre its ns := rv.ints
    have hu : X.A.units + 1 + PySem.W.Datum.depth Int < cLine := by
      have := Room.u64 hr
      show X.A.units + 1 + 0 < _
      omega
    refine PySem.W.max_list_datum_default (α := Int) (xs := ns) (vs := its.toArray) (I.ok.hd hc) hl.isList ⟨[], by rw [List.toList_toArray]; exact hi.reads s.heap⟩ hu (fun e h' tk hk => ?_) fun y ys i v h' tk e hv hh hk => ?_
    · exact ⟨.int d, H, I.kept hk, ⟨_, rfl⟩, q0 e⟩
    · obtain ⟨as, rr⟩ := hh
      obtain ⟨m1, m2⟩ := maxOf_int ys y
      cases rr with
      | int _ t2 =>
        refine ⟨.int _, H, I.kept hk, ⟨_, rfl⟩, q1 (by rw [e]; simp) _ (by rw [e]; exact m1) (by rw [e]; exact m2)⟩
/-! ### how many a set has -/
def rLenS (w : World) : List V → Hp → VK → Prop := fun vs H Q => ∃ (a : Addr) (S : Int → Bool) (n : Nat), vs = [V.ref a] ∧ H a = some (SetO w a S n) ∧ ∀ ks : List Int, ks.Nodup → (∀ k, S k = true ↔ k ∈ ks) → Q (.int ks.length) H
theorem cr_lenS {X : Cx} : CallR X (.builtin "len") (rLenS X.w) := by
  intro pins s σ H vs us Q I r h
  obtain ⟨a, S, n, rfl, ha, q⟩ := h
  rw [Vals.ref1 r]
  obtain ⟨o, es, ep, t, ho, hex, hd, g, nd, mem, hb, hf, hn, hr, hl⟩ := setO_get I ha
  have e : ((es.size : Nat) : Int) = ((es.toList.map keyOf).length : Nat) := by rw [List.length_map, Array.length_toList]
  refine call_len_set ho hex hd hf (by unfold scanBound at hb; omega) ⟨.int es.size, H, I.tok _, ⟨_, rfl⟩, ?_⟩
  rw [e]
  exact q _ nd mem
section
variable {K : PySem.W.Frag} {w : World} {env : En} {ta tb te tk : TE} {P : En → PyData → Prop}
theorem ev_lenSet (h : EvE K ta env fun e1 d => ∃ ns : List Int, d = .list (ns.map .int) ∧ ns.length < 1000 ∧ ∀ ks : List Int, ks.Nodup → (∀ k, k ∈ ns ↔ k ∈ ks) → P e1 (.int ks.length)) :
    EvE K (tCB (rLenS w) (tCons (tCB (rSetI K w) (tCons ta tNil)) tNil)) env P := fun B σ G H Q I q =>
  h B σ G H _ I fun x G1 H1 e1 d1 p1 x1 I1 r1 => by
    obtain ⟨ns, rfl, hn, p1⟩ := p1
    cases r1 with
    | lst h1 r1 =>
      have ex := dd_ints r1
      subst ex
      refine ⟨_, ns, rfl, .inl (SqL.of (I1.exH _ _ h1)), hn, fun p c np lc => ?_⟩
      refine ⟨p, _, c, rfl, upd_same, fun ks nd mem => ?_⟩
      exact q _ _ _ e1 _ (p1 ks nd fun k => ⟨fun hk => (mem k).mp (decide_eq_true hk), fun hk => of_decide_eq_true ((mem k).mpr hk)⟩) x1 (I1.more np) (.int _)
theorem ev_max (h : EvE K ta env fun e1 d => ∃ ns : List Int, d = .list (ns.map .int) ∧ ns ≠ [] ∧ ∀ m, m ∈ ns → (∀ y ∈ ns, y ≤ m) → P e1 (.int m)) : EvE K (tCB (rMax K) (tCons ta tNil)) env P := fun B σ G H Q I q =>
  h B σ G H _ I fun x G1 H1 e1 d1 p1 x1 I1 r1 => by
    obtain ⟨ns, rfl, hn, p1⟩ := p1
    cases r1 with
    | lst h1 r1 =>
      have ex := dd_ints r1
      subst ex
      exact ⟨_, ns, rfl, SqL.of (I1.exH _ _ h1), List.length_pos_iff.mpr hn, fun m h1 h2 => q _ _ _ e1 _ (p1 m h1 h2) x1 I1 (.int m)⟩
theorem ev_maxDef (h : EvE K ta env fun e1 d => ∃ ns : List Int, d = .list (ns.map .int) ∧ EvE K tk e1 fun e2 f => ∃ j : Int, f = .int j ∧ (ns = [] → P e2 (.int j)) ∧ (ns ≠ [] → ∀ m, m ∈ ns → (∀ y ∈ ns, y ≤ m) → P e2 (.int m))) : EvE K (tCKw (rMaxDef K) (tCons ta tNil) (tCons tk tNil)) env P := fun B σ G H Q I q =>
  h B σ G H _ I fun x G1 H1 e1 d1 p1 x1 I1 r1 => by
    obtain ⟨ns, rfl, p1⟩ := p1
    cases r1 with
    | lst h1 r1 =>
      have ex := dd_ints r1
      subst ex
      refine p1 B σ G1 H1 _ I1 fun y G2 H2 e2 d2 p2 x2 I2 r2 => ?_
      obtain ⟨j, rfl, p20, p21⟩ := p2
      cases r2
      exact ⟨_, ns, j, rfl, rfl, SqL.of (I2.exH _ _ (x2 _ _ h1)), fun e => q _ _ _ e2 _ (p20 e) (x1.trans x2) I2 (.int _), fun e m h1 h2 => q _ _ _ e2 _ (p21 e m h1 h2) (x1.trans x2) I2 (.int _)⟩
/-- a list of one's own at a place -/
theorem ev_ixOwn {i : Nat} {p : Addr} {ds : List PyData} (hi : env[i]? = some (some (.own p ds))) (h : EvE K tb env fun e1 d => e1 = env ∧ ∃ (k : Int) (f : PyData), d = .int k ∧ L2.atI ds k = some f ∧ P env f) : EvE K (tOp (rIx K) (tVar i) tb) env P := fun B σ G H Q I q => by
  obtain ⟨v, hv, rfl, _⟩ := I.sl i _ hi
  refine ⟨_, hv, ?_⟩
  refine h B σ G H _ I fun y G1 H1 e1 d p1 x1 I1 r1 => ?_
  obtain ⟨rfl, k, f, rfl, hk, hp⟩ := p1
  cases r1
  obtain ⟨_, _, _, g, xs, hx, r⟩ := I1.sl i _ hi
  obtain ⟨u, hu, ru⟩ := r.atI hk
  exact .inl ⟨p, xs, k, u, rfl, rfl, SqL.of hx, hu, q u G1 H1 e1 _ hp x1 I1 ru⟩
/-- x not in a list of one's own, over data -/
theorem ev_ninOwnD {i : Nat} {p : Addr} {ds : List PyData} (hi : env[i]? = some (some (.own p ds))) (hs : eqOk (.list ds) = true) (h : EvE K te env fun e1 d => e1 = env ∧ eqOk d = true ∧ P env (.bool (!ds.any fun z => PyData.eqv z d))) : EvE K (tOp (rNotInD K) te (tVar i)) env P := fun B σ G H Q I q => by
  refine h B σ G H _ I fun x G1 H1 e1 d p1 x1 I1 r1 => ?_
  obtain ⟨rfl, hd, hp⟩ := p1
  obtain ⟨v, hv, rfl, g, xs, hx, r⟩ := I1.sl i _ hi
  have n1 : noDict d = true ∧ SeqAt.shaped d = true := by simpa [eqOk] using hd
  have n2 : noDict (.list ds) = true ∧ SeqAt.shaped (.list ds) = true := by simpa [eqOk] using hs
  exact ⟨_, hv, d, ds, Dd.dp (K := K) _ _ n1.1 (r1.ex I1.exH), Dd.dp (K := K) _ _ n2.1 (.lst hx (r.ex I1.exH)), n1.2, n2.2, q _ G1 H1 e1 _ hp x1 I1 (.bl _)⟩
end
end FD

set_option Elab.async false
set_option linter.all false
set_option maxRecDepth 100000
set_option maxHeartbeats 4000000
namespace FD
open PySem PySem.Spec PyProof.Rows L2
section
variable {w : World} {K : PySem.W.Frag} {env : En} {wi : TI} {tt : TT} {te : TE} {vs : List Nat} {i j : Nat}
/-! ### sorted({elt for x in xs if t}), ints -/
abbrev tSc1 (w : World) (wi : TI) (g : TG) (tt : TT) (te : TE) (vs : List Nat) : TE := fun σ H Q => wi σ H fun J H1 => ∀ D, H1 D = none → OneOwe w g tt te vs σ Q J D (upd H1 D (SetO w D (fun _ => false) 0))
theorem eow_sc1 {xs : List PyData} {test : PyData → Bool} {num : PyData → Int} {P : En → List PyData → Prop}
    (h0 : EvI K wi env fun e1 ys => e1 = env ∧ ys = xs) (he0 : ∀ k s, env[k]? = some (some s) → k ∉ [i]) (he : wipeE env [i] = env) (hey : ∀ d, wipeE (env.set i (some (.dat d))) [i] = env)
    (hel : ∀ d ∈ xs, EvB K tt (env.set i (some (.dat d))) fun e b => e = env.set i (some (.dat d)) ∧ b = test d ∧ (b = true → EvE K te e fun e2 v => e2 = e ∧ v = .int (num d)))
    (hb : xs.length < 63) (q : ∀ ns : List Int, ns.Pairwise (· < ·) → (∀ k, k ∈ ns ↔ ∃ d ∈ xs, test d = true ∧ num d = k) → P env (ns.map .int)) :
    EvOwn K (tCB (rSortedSet w) (tCons (tSc1 w wi (gName i) tt te [i]) tNil)) env P := fun B σ G H Q I qq => by
  have big : (64 : Nat) < scanBound := by decide
  refine h0 B σ G H _ I fun J G1 H1 e1 ys ⟨p1, p2⟩ x1 I1 j D nD => ?_
  subst p1 p2
  have gD : G1 D = none := I1.exH.fresh nD
  obtain ⟨bD, sD⟩ := I1.fresh nD
  have mD : ¬ B.mu D := fun m => by obtain ⟨o, ho⟩ := I1.mus D m; rw [bD] at ho; cases ho
  have gB : B.G D = none := I1.exG.fresh gD
  have start : EnvOk K ⟨upd B.H D (SetO w D (memS []) ([] : List Int).length), B.G, B.mu⟩ G1 (upd H1 D (SetO w D (fun _ => false) 0)) (wipe σ [i]) e1 := by
    have e0 : SetO w D (fun _ => false) 0 = SetO w D (memS []) ([] : List Int).length := by
      congr 1
    rw [← e0]
    have := (I1.more (o := SetO w D (fun _ => false) 0) nD).wiped [i]
    rw [he] at this
    exact EnvOk.hide this upd_same gD sD mD
  let Mem := fun (n : Nat) (L : List Int) => ∀ k, k ∈ L ↔ ∃ d ∈ ys.take n, test d = true ∧ num d = k
  let St := fun (n : Nat) (H2 : Hp) => ∃ (G2 : Hp) (L : List Int), Ex G1 G2 ∧ EnvOk K ⟨upd B.H D (SetO w D (memS L) L.length), B.G, B.mu⟩ G2 H2 (wipe σ [i]) e1 ∧ Mem n L ∧ L.length ≤ n
  refine ⟨fun n m H2 => m = ys.length - n ∧ n ≤ ys.length ∧ St n H2, ⟨_, rfl, Nat.zero_le _, G1, [], Ex.refl _, start, fun k => by simp, Nat.zero_le _⟩, ?_⟩
  rintro n m H2 ⟨rfl, hn, G2, L, x2, I2, mem, len⟩
  obtain ⟨jg, js⟩ := j G2 H2 x2 I2.exH
  by_cases hlt : n < ys.length
  · obtain ⟨go, yl⟩ := jg n ys[n] (List.getElem?_eq_getElem hlt)
    have hd : ys[n] ∈ ys := List.getElem_mem hlt
    refine .inr ⟨go, St (n + 1), fun H3 s3 => ⟨ys.length - (n + 1), by omega, rfl, hlt, s3⟩, fun x H3 y => ?_⟩
    obtain ⟨e, r⟩ := yl x H3 y
    subst e
    have tk : ys.take (n + 1) = ys.take n ++ [ys[n]] := (List.take_append_getElem hlt).symm
    have mem1 : ∀ k, (∃ d ∈ ys.take (n + 1), test d = true ∧ num d = k) ↔ (∃ d ∈ ys.take n, test d = true ∧ num d = k) ∨ (test ys[n] = true ∧ num ys[n] = k) := fun k => by
      rw [tk]
      constructor
      · rintro ⟨d', a, b⟩
        rcases List.mem_append.mp a with a | a
        · exact .inl ⟨d', a, b⟩
        · obtain rfl := List.mem_singleton.mp a
          exact .inr b
      · rintro (⟨d', a, b⟩ | b)
        · exact ⟨d', List.mem_append_left _ a, b⟩
        · exact ⟨_, List.mem_append_right _ List.mem_cons_self, b⟩
    generalize hdd : ys[n] = d at r hd mem1
    have back : wipe ((wipe σ [i]).set i (some x)) [i] = wipe σ [i] := by rw [wipe_set (by simp), wipe_sub fun _ z => z]
    show wipe ((wipe σ [i]).set i (some x)) [i] = wipe σ [i] ∧ _
    refine ⟨back, ?_⟩
    have I3 : EnvOk K ⟨upd B.H D (SetO w D (memS L) L.length), B.G, B.mu⟩ G2 H3 ((wipe σ [i]).set i (some x)) (e1.set i (some (.dat d))) := I2.setD r
    refine hel d hd _ _ G2 H3 _ I3 fun bb G7 H7 e7 ⟨s1, s2, s3⟩ x7 I7 => ?_
    subst s1
    cases bb with
    | false =>
      refine iteF ⟨G7, L, x2.trans x7, ?_, fun k => ?_, by omega⟩
      · have := I7.wiped [i]
        rw [back, hey d] at this
        exact this
      · rw [mem k, mem1 k]
        exact ⟨.inl, fun z => z.elim id fun z => by rw [← s2] at z; exact Bool.noConfusion z.1⟩
    | true =>
      refine iteT (s3 rfl _ _ G7 H7 _ I7 fun vv G8 H8 e8 dd ⟨t1, t2⟩ x8 I8 r8 => ?_)
      subst t1 t2
      cases r8
      have hD8 : H8 D = some (SetO w D (memS L) L.length) := I8.keep D _ upd_same mD
      refine ⟨num d, memS L, L.length, rfl, hD8, by omega, G8, addL L (num d), (x2.trans x7).trans x8, ?_, fun k => ?_, ?_⟩
      · rw [addL_set]
        have := (I8.rehide (o' := SetO w D (memS (addL L (num d))) (addL L (num d)).length) bD mD gB).wiped [i]
        rw [back, hey d] at this
        exact this
      · rw [addL_mem, mem k, mem1 k]
        exact or_congr Iff.rfl ⟨fun z => ⟨s2.symm, z.symm⟩, fun z => z.2.symm⟩
      · have := addL_len L (num d)
        omega
  · have e : n = ys.length := by omega
    subst e
    refine .inl ⟨js, ?_⟩
    obtain ⟨I6, hD5, gD5, sD5⟩ := I2.unhide bD mD gB
    have I7 := I6.unwiped he0
    refine ⟨D, memS L, L.length, rfl, hD5, by omega, fun ns p ord hm hl hp => ?_⟩
    have hm' : ∀ k, k ∈ ns ↔ ∃ d ∈ ys, test d = true ∧ num d = k := fun k => by
      rw [hm k, decide_eq_true_eq, mem k, List.take_length]
    obtain ⟨bp, sp⟩ := I7.fresh hp
    refine qq p G2 _ _ _ (q ns ord hm') (x1.trans x2) (I7.more hp) (I7.exH.fresh hp) ⟨_, upd_same, ?_⟩ bp sp
    clear hm hm' hl ord
    induction ns with
    | nil => exact .nil
    | cons a l ih => exact .cons (.int a) ih
/-! ### [F x for x in xs if p x] -/
theorem ev_fmap {P : En → PyData → Prop} (p : PyData → Bool) (F : PyData → PyData) (h : EvI K wi env fun e1 xs => xs.length ≤ 100000 ∧ (∀ d, d ∈ xs → EvB K tt (e1.set i (some (.dat d))) fun e4 b => b = p d ∧ (b = true → EvE K te e4 fun e5 y => e5.set i none = e1.set i none ∧ y = F d) ∧ (b = false → e4.set i none = e1.set i none)) ∧ P (e1.set i none) (.list ((xs.filter p).map F))) :
    EvE K (tLc wi (gName i) tt te [i]) env P := ev_lc fun B σ G H R I q => h B σ G H R I fun J G1 H1 e1 xs p1 x1 I1 j => by
  obtain ⟨hl, he, hp⟩ := p1
  refine q J G1 H1 e1 xs ⟨fun m e acc => m ≤ xs.length ∧ e = e1.set i none ∧ acc = ((xs.take m).filter p).map F, ⟨Nat.zero_le _, rfl, rfl⟩, ?_, ?_⟩ x1 I1 j
  · rintro m d e acc hm ⟨h1, rfl, rfl⟩
    have lt : m < xs.length := (List.getElem?_eq_some_iff.mp hm).1
    have tk : xs.take (m + 1) = xs.take m ++ [d] := by rw [List.take_add_one, hm]; rfl
    refine ⟨?_, ?_⟩
    · rw [List.length_map]
      refine Nat.lt_of_le_of_lt (List.length_filter_le _ _) ?_
      rw [List.length_take]
      exact Nat.lt_of_lt_of_le (Nat.lt_of_le_of_lt (Nat.min_le_left _ _) lt) (Nat.le_trans hl (by decide))
    · rw [List.set_set]
      refine fun B σ G H Q I q2 => he d (List.mem_of_getElem? hm) B σ G H Q I fun b G2 H2 e4 p4 x4 I4 => q2 b G2 H2 e4 ⟨fun hb => ?_, fun hb => ?_⟩ x4 I4
      · refine (p4.2.1 hb).imp ?_
        rintro e5 y ⟨q1, rfl⟩
        refine ⟨lt, q1, ?_⟩
        rw [tk, List.filter_append, List.map_append, List.filter_cons, ← p4.1, hb]
        rfl
      · refine ⟨lt, p4.2.2 hb, ?_⟩
        rw [tk, List.filter_append, List.map_append, List.filter_cons, ← p4.1, hb]
        show _ = _ ++ []
        rw [List.append_nil]
  · rintro e acc ⟨h1, rfl, rfl⟩
    rw [List.take_length, List.set_set]
    exact hp
/-! ### [F x for a, b in xs if p x] -/
theorem ev_fmapT {P : En → PyData → Prop} {xs : List PyData} (p : PyData → Bool) (F : PyData → PyData) (h0 : EvI K wi env fun e1 ys => e1 = env ∧ ys = xs) (he0 : ∀ k s, env[k]? = some (some s) → k ∉ [i, j]) (he : wipeE env [i, j] = env)
    (hey : ∀ a b, wipeE ((env.set i (some (.dat a))).set j (some (.dat b))) [i, j] = env) (hl : xs.length ≤ 100000)
    (hel : ∀ d ∈ xs, ∃ a b, d = .tuple [a, b] ∧ EvB K tt ((env.set i (some (.dat a))).set j (some (.dat b))) fun e b1 => e = (env.set i (some (.dat a))).set j (some (.dat b)) ∧ b1 = p d ∧ (b1 = true → EvE K te e fun e2 y => e2 = e ∧ y = F d))
    (q : P env (.list ((xs.filter p).map F))) : EvE K (tLc wi (gTup K 2 (gCons (gName i) (gCons (gName j) gNil))) tt te [i, j]) env P := fun B σ G H Q I qq => by
  refine h0 B σ G H _ I fun J G1 H1 e1 ys ⟨p1, p2⟩ x1 I1 jk D nD => ?_
  subst p1 p2
  have gD : G1 D = none := I1.exH.fresh nD
  obtain ⟨bD, sD⟩ := I1.fresh nD
  have mD : ¬ B.mu D := fun m => by obtain ⟨o, ho⟩ := I1.mus D m; rw [bD] at ho; cases ho
  have gB : B.G D = none := I1.exG.fresh gD
  have big : (100000 : Nat) < sizeLine := by decide
  have start : EnvOk K ⟨upd B.H D (.lst []), B.G, B.mu⟩ G1 (upd H1 D (.lst [])) (wipe σ [i, j]) e1 := by
    have := (I1.more (o := .lst []) nD).wiped [i, j]
    rw [he] at this
    exact EnvOk.hide this upd_same gD sD mD
  let St := fun (n : Nat) (H2 : Hp) => n ≤ ys.length ∧ ∃ (G2 : Hp) (av : List V), Ex G1 G2 ∧ DdAll G2 av (((ys.take n).filter p).map F) ∧ EnvOk K ⟨upd B.H D (.lst av), B.G, B.mu⟩ G2 H2 (wipe σ [i, j]) e1
  refine ⟨fun n m H2 => m = ys.length - n ∧ St n H2, ⟨_, rfl, Nat.zero_le _, G1, [], Ex.refl _, .nil, start⟩, ?_⟩
  rintro n m H2 ⟨rfl, hn, G2, av, x2, ra, I2⟩
  obtain ⟨jg, js⟩ := jk G2 H2 x2 I2.exH
  by_cases hlt : n < ys.length
  · obtain ⟨go, yl⟩ := jg n ys[n] (List.getElem?_eq_getElem hlt)
    refine .inr ⟨go, St (n + 1), fun H3 s3 => ⟨ys.length - (n + 1), by omega, rfl, s3⟩, fun x H3 y => ?_⟩
    obtain ⟨e, r⟩ := yl x H3 y
    subst e
    have tk : ys.take (n + 1) = ys.take n ++ [ys[n]] := (List.take_append_getElem hlt).symm
    obtain ⟨a, b, ed, ev⟩ := hel _ (List.getElem_mem hlt)
    have few : av.length < sizeLine := by
      rw [ra.length, List.length_map]
      have := List.length_filter_le p (ys.take n)
      rw [List.length_take] at this
      omega
    generalize hdd : ys[n] = d at r ed ev tk
    subst ed
    cases r with
    | @tup c _ _ hc rc =>
      cases rc with
      | @cons v1 _ _ _ r1 rc =>
        obtain ⟨v2, rfl, r2⟩ := rc.one
        have I3 := (I2.setD (i := i) r1).setD (i := j) r2
        have bk : wipe (((wipe σ [i, j]).set i (some v1)).set j (some v2)) [i, j] = wipe σ [i, j] := by rw [wipe_set (by simp), wipe_set (by simp), wipe_sub fun _ z => z]
        refine ⟨c, _, rfl, SqT.of (I2.exH _ _ hc), rfl, v1, [v2], rfl, v2, [], rfl, rfl, bk, ?_⟩
        refine ev _ _ G2 H3 _ I3 fun bb G4 H4 e4 ⟨s1, s2, s3⟩ x4 I4 => ?_
        subst s1
        cases bb with
        | true =>
          refine iteT (s3 rfl _ _ G4 H4 _ I4 fun yv G5 H5 e5 yd ⟨p5, p6⟩ x5 I5 r5 => ?_)
          subst p5 p6
          have hD5 : H5 D = some (.lst av) := I5.keep D _ upd_same mD
          refine ⟨av, hD5, few, hlt, G5, av ++ [yv], (x2.trans x4).trans x5, ?_, ?_⟩
          · rw [tk, List.filter_append, List.map_append, List.filter_cons, ← s2]
            exact (ra.ex (x4.trans x5)).append (.cons r5 .nil)
          · have := (I5.rehide (o' := .lst (av ++ [yv])) bD mD gB).wiped [i, j]
            rw [bk, hey] at this
            exact this
        | false =>
          refine iteF ⟨hlt, G4, av, x2.trans x4, ?_, ?_⟩
          · rw [tk, List.filter_append, List.map_append, List.filter_cons, ← s2]
            show DdAll G4 av (_ ++ [])
            rw [List.append_nil]
            exact ra.ex x4
          · have := I4.wiped [i, j]
            rw [bk, hey] at this
            exact this
  · have e : n = ys.length := by omega
    subst e
    rw [List.take_length] at ra
    obtain ⟨I6, hD5, gD5, sD5⟩ := I2.unhide bD mD gB
    have I7 := (I6.unwiped he0).freeze hD5 gD5 sD5 bD
    exact .inl ⟨js, qq _ _ _ _ _ q ((x1.trans x2).trans (Ex.new gD5)) I7 (.lst upd_same (ra.ex (Ex.new gD5)))⟩
end
end FD

set_option Elab.async false
set_option linter.all false
set_option maxRecDepth 100000
set_option maxHeartbeats 4000000
namespace FD
open PySem PySem.Spec PyProof.Rows L2
/-! ### a dict of ints, each with True -/
def kT (k : Int) : PyData × PyData := (.int k, .bool true)
theorem kT_put {G : Hp} {k : Int} : ∀ {ns : List Int} {kvs : List (Key × V)}, DdKv G kvs (ns.map kT) → (kvs.any fun kv => decide (kv.1 = (.inl k : Key))) = decide (k ∈ ns) ∧ DdKv G (kvs.map fun kv => if kv.1 = (.inl k : Key) then (kv.1, V.bl true) else kv) (ns.map kT) ∧ DdKv G (kvs ++ [((.inl k : Key), V.bl true)]) ((ns ++ [k]).map kT)
  | [], _, h => by
    cases h
    exact ⟨rfl, .nil, .cons (k := .inl k) (.bl true) .nil⟩
  | n :: ns, _, h => by
    have h' : DdKv G _ ((kD (.inl n : Key), .bool true) :: ns.map kT) := h
    generalize hq : kD (.inl n : Key) = q at h'
    cases h' with
    | @cons k0 v vs _ _ r t =>
      have ek : k0 = .inl n := by
        cases k0 with
        | inl m => have := hq; injection this with e; rw [e]
        | inr x => cases hq
      subst ek
      cases r
      obtain ⟨a1, a2, a3⟩ := kT_put (k := k) t
      refine ⟨?_, ?_, .cons (k := .inl n) (.bl true) a3⟩
      · rw [List.any_cons, a1]
        by_cases z : n = k
        · subst z; simp
        · have z2 : ¬ ((.inl n : Key) = .inl k) := fun e => z (by injection e)
          rw [decide_eq_false z2, Bool.false_or]
          exact decide_eq_decide.mpr ⟨fun h => List.mem_cons_of_mem _ h, fun h => (List.mem_cons.mp h).elim (fun e => absurd e.symm z) id⟩
      · rw [List.map_cons]
        by_cases z : n = k
        · subst z
          rw [if_pos rfl]
          exact .cons (k := .inl n) (.bl true) a2
        · have z2 : ¬ ((.inl n : Key) = .inl k) := fun e => z (by injection e)
          rw [if_neg z2]
          exact .cons (k := .inl n) (.bl true) a2
theorem kT_putK {G : Hp} {k : Int} {ns : List Int} {kvs : List (Key × V)} (h : DdKv G kvs (ns.map kT)) : DdKv G (putK kvs (.inl k : Key) (V.bl true)) ((addL ns k).map kT) := by
  obtain ⟨a1, a2, a3⟩ := kT_put (k := k) h
  unfold putK addL
  rw [a1]
  by_cases z : k ∈ ns
  · rw [decide_eq_true z, if_pos rfl, if_pos z]; exact a2
  · rw [decide_eq_false z, if_neg Bool.false_ne_true, if_neg z]; exact a3
theorem ints_dd (G : Hp) : ∀ l : List Int, DdAll G (l.map V.int) (l.map PyData.int)
  | [] => .nil
  | a :: l => .cons (.int a) (ints_dd G l)
section
variable {K : PySem.W.Frag} {env : En} {O : Outs} {i j : Nat} {te ta tb tv ty : TE} {P : En → PyData → Prop}
theorem es_odcE (h : ∀ p : Addr, O.nx (env.set i (some (.odc p [])))) : EvS K (tAsg tDNewK (gName i)) env O := fun B σ G H D I a b c d f => by
  intro p np
  have n := I.exH.fresh np
  obtain ⟨bp, sp⟩ := I.fresh np
  exact a _ G _ _ (h p) (Ex.refl G) ((I.more (o := .dK []) np).setO (s := .odc p []) ⟨rfl, n, [], upd_same, .nil⟩ rfl bp sp)
theorem es_dputI {p : Addr} {ns : List Int} (h0 : env[i]? = some (some (.odc p (ns.map kT)))) (hl : ns.length < 100000)
    (h : EvE K tv env fun e1 d => e1 = env ∧ d = .bool true ∧ EvE K ty env fun e2 k => e2 = env ∧ ∃ y : Int, k = .int y ∧ O.nx (env.set i (some (.odc p ((addL ns y).map kT))))) : EvS K (sDPut (tVar i) ty tv) env O := fun B σ G H D I a b c d f => by
  refine h B σ G H _ I fun v G1 H1 e1 d1 p1 x1 I1 r1 => ?_
  obtain ⟨rfl, rfl, p1⟩ := p1
  cases r1
  obtain ⟨v0, hv0, rfl, _⟩ := I1.sl i _ h0
  refine ⟨_, hv0, ?_⟩
  refine p1 B σ G1 H1 _ I1 fun yv G2 H2 e2 k p2 x2 I2 r2 => ?_
  obtain ⟨rfl, y, rfl, hn⟩ := p2
  cases r2
  obtain ⟨v1, hv1, rfl, g1, kvs, hk, rk⟩ := I2.sl i _ h0
  refine ⟨p, _, rfl, DPut.k (k := .inl y) hk (by rw [rk.length, List.length_map]; exact Nat.lt_of_lt_of_le hl (by decide)), ?_⟩
  exact a σ G2 _ _ hn (x1.trans x2) (I2.put h0 rfl rfl rfl ⟨rfl, g1, _, upd_same, kT_putK rk⟩)
theorem keys_kT {G : Hp} {m : Nat} : ∀ {ns : List Int} {kvs : List (Key × V)} {k : Key} {v : V} {n : Nat}, DdKv G kvs (ns.map kT) → kvs[n]? = some (k, v) → ∃ y : Int, ns[n]? = some y ∧ k = .inl y
  | [], _, _, _, n, h, e => by cases h; simp at e
  | y :: ns, _, k, v, n, h, e => by
    have h' : DdKv G _ ((kD (.inl y : Key), .bool true) :: ns.map kT) := h
    generalize hq : kD (.inl y : Key) = q at h'
    cases h' with
    | @cons k0 v0 vs _ _ r t =>
      have ek : k0 = .inl y := by
        cases k0 with
        | inl m => have := hq; injection this with e; rw [e]
        | inr x => cases hq
      subst ek
      cases n with
      | zero =>
        simp only [List.getElem?_cons_zero, Option.some.injEq, Prod.mk.injEq] at e ⊢
        exact ⟨y, rfl, e.1.symm⟩
      | succ n =>
        rw [List.getElem?_cons_succ] at e ⊢
        exact keys_kT (m := m) t e
/-- [x for x in d], d locked meanwhile -/
theorem ev_keysI {p : Addr} {ns : List Int} (hd : env[i]? = some (some (.odc p (ns.map kT)))) (hx : env[j]? = some none) (hl : ns.length ≤ 100000) (q : P env (.list (ns.map .int))) : EvE K (tLockE (tLc (iKeys (tVar i)) (gName j) tYes (tVar j) [j])) env P := fun B σ G H Q I k => by
  obtain ⟨v0, hv0, rfl, gp, kvs, hk, rk⟩ := I.sl i _ hd
  have big : (100000 : Nat) < sizeLine := by decide
  have lix : j < σ.length := by
    rw [I.len]
    rcases Nat.lt_or_ge j env.length with q | q
    · exact q
    · rw [List.getElem?_eq_none q] at hx; cases hx
  have he : env.set j none = env := by
    refine List.ext_getElem? fun l => ?_
    by_cases z : j = l
    · subst z
      rw [List.getElem?_set_self (by rw [← I.len]; exact lix), hx]
    · rw [List.getElem?_set_ne z]
  have lk : kvs.length = ns.length := by rw [rk.length, List.length_map]
  refine ⟨p, .dK kvs, hk, trivial, fun od => ?_⟩
  refine ⟨_, hv0, p, od, rfl, .inl ⟨kvs, upd_same, fun Da nD => ?_⟩⟩
  have npD : p ≠ Da := ne_of_none upd_same nD
  have nDH : H Da = none := by rw [upd_ne (Ne.symm npD)] at nD; exact nD
  have gD : G Da = none := I.exH.fresh nDH
  obtain ⟨bD, sD⟩ := I.fresh nDH
  have mD : ¬ B.mu Da := fun m => by obtain ⟨o, ho⟩ := I.mus Da m; rw [bD] at ho; cases ho
  have gB : B.G Da = none := I.exG.fresh gD
  let St := fun (n : Nat) (Hc : Hp) => n ≤ kvs.length ∧ ∃ Hu : Hp, Hc = upd Hu p (.frz od (.dK kvs)) ∧ Hu p = some (.dK kvs) ∧ EnvOk K ⟨upd B.H Da (.lst ((ns.take n).map V.int)), B.G, B.mu⟩ G Hu (σ.set j none) env
  refine ⟨fun n m Hc => m = kvs.length - n ∧ St n Hc, ⟨_, rfl, Nat.zero_le _, upd H Da (.lst []), ?_, ?_, ?_⟩, ?_⟩
  · funext z
    by_cases z1 : z = Da
    · subst z1; rw [upd_same, upd_ne (Ne.symm npD), upd_same]
    · rw [upd_ne z1]
      by_cases z2 : z = p
      · subst z2; rw [upd_same, upd_same]
      · rw [upd_ne z2, upd_ne z2, upd_ne z1]
  · rw [upd_ne npD]; exact hk
  · have := (I.more (o := .lst []) nDH).setN j
    rw [he] at this
    exact EnvOk.hide this upd_same gD sD mD
  · rintro n m Hc ⟨rfl, hn, Hu, rfl, hup, I2⟩
    by_cases hlt : n < kvs.length
    · refine .inr ⟨⟨upd_same, hlt⟩, St (n + 1), fun H' s' => ⟨kvs.length - (n + 1), by omega, rfl, s'⟩, fun x H' y => ?_⟩
      obtain ⟨rfl, kk, v, hkv, rfl⟩ := y
      obtain ⟨y, hy, rfl⟩ := keys_kT (m := 0) rk hkv
      have hD : Hu Da = some (.lst ((ns.take n).map V.int)) := I2.keep Da _ upd_same mD
      show wipe ((wipe σ [j]).set j (some (kV (.inl y)))) [j] = wipe σ [j] ∧ _
      refine ⟨by rw [wipe1, wipe1, List.set_set, List.set_set], ?_⟩
      delta tYes
      refine iteT ?_
      have s1 : ((wipe σ [j]).set j (some (kV (.inl y))))[j]? = some (some (kV (.inl y))) := by rw [List.getElem?_set_self]; rw [wipe_length]; exact lix
      have tk : ns.take (n + 1) = ns.take n ++ [y] := by rw [List.take_add_one, hy]; rfl
      refine ⟨_, s1, (ns.take n).map V.int, by rw [upd_ne (Ne.symm npD)]; exact hD, by rw [List.length_map, List.length_take]; omega, hlt, upd Hu Da (.lst ((ns.take (n + 1)).map V.int)), ?_, ?_, ?_⟩
      · rw [tk, List.map_append]
        funext z
        by_cases z1 : z = Da
        · subst z1; rw [upd_same, upd_ne (Ne.symm npD), upd_same]; rfl
        · rw [upd_ne z1]
          by_cases z3 : z = p
          · subst z3; rw [upd_same, upd_same]
          · rw [upd_ne z3, upd_ne z3, upd_ne z1]
      · rw [upd_ne npD]; exact hup
      · exact I2.rehide bD mD gB
    · have e : n = kvs.length := by omega
      subst e
      refine .inl ⟨⟨upd_same, Nat.le_refl _⟩, upd_same, ?_⟩
      rw [upd_upd, upd_eq hup]
      obtain ⟨I6, hD5, gD5, sD5⟩ := I2.unhide bD mD gB
      have I7 : EnvOk K B G Hu σ env := EnvOk.unwiped (vs := [j]) I6 fun l s e z => by
        obtain rfl := List.mem_singleton.mp z
        rw [hx] at e; cases e
      rw [lk, List.take_length] at hD5
      have I8 := I7.freeze hD5 gD5 sD5 bD
      exact k _ _ _ _ _ q (Ex.new gD5) I8 (.lst upd_same (ints_dd _ ns))
/-! ### places in a list of ints, in a text -/
def firstAt (k : Int) : List Int → Nat
  | [] => 0
  | x :: xs => if x = k then 0 else firstAt k xs + 1
theorem firstAt_ok {k : Int} : ∀ {xs : List Int}, k ∈ xs → xs[firstAt k xs]? = some k ∧ ∀ m z, m < firstAt k xs → xs[m]? = some z → z ≠ k
  | x :: xs, h => by
    unfold firstAt
    by_cases e : x = k
    · rw [if_pos e, e]
      exact ⟨rfl, fun m z hm => absurd hm (Nat.not_lt_zero m)⟩
    · rw [if_neg e]
      have h' : k ∈ xs := (List.mem_cons.mp h).elim (fun z => absurd z.symm e) id
      obtain ⟨a, b⟩ := firstAt_ok h'
      refine ⟨by rw [List.getElem?_cons_succ]; exact a, fun m z hm hz => ?_⟩
      cases m with
      | zero => rw [List.getElem?_cons_zero] at hz; cases hz; exact e
      | succ m => rw [List.getElem?_cons_succ] at hz; exact b m z (by omega) hz
theorem ev_index (h : EvE K te env fun e1 d => ∃ ns : List Int, d = .list (ns.map .int) ∧ EvE K ta e1 fun e2 f => ∃ k : Int, f = .int k ∧ k ∈ ns ∧ P e2 (.int (firstAt k ns : Nat))) : EvE K (tBM K "list" (rIndex K) te (tCons ta tNil)) env P := fun B σ G H Q I q =>
  h B σ G H _ I fun x G1 H1 e1 d1 p1 x1 I1 r1 => by
    obtain ⟨ns, rfl, p1⟩ := p1
    cases r1 with
    | lst h1 r1 =>
      have ex := dd_ints r1
      subst ex
      refine ⟨.inl ⟨rfl, _, SqL.of (I1.exH _ _ h1)⟩, ?_⟩
      refine p1 B σ G1 H1 _ I1 fun y G2 H2 e2 d2 p2 x2 I2 r2 => ?_
      obtain ⟨k, rfl, hk, hp⟩ := p2
      cases r2
      obtain ⟨a1, a2⟩ := firstAt_ok hk
      refine ⟨_, ns.map V.int, .int k, firstAt k ns, .int k, rfl, rfl, SqL.of (I2.exH _ _ (x2 _ _ h1)), rfl, ?_, by rw [List.getElem?_map, a1]; rfl, by show (k == k) = true; exact beq_self_eq_true k, fun m z hm hz => ?_, q _ G2 H2 e2 _ hp (x1.trans x2) I2 (.int _)⟩
      · rw [List.all_map]; exact List.all_eq_true.mpr fun _ _ => rfl
      · rw [List.getElem?_map] at hz
        cases hn : ns[m]? with
        | none => rw [hn] at hz; cases hz
        | some u =>
          rw [hn] at hz
          cases hz
          show (u == k) = false
          exact beq_eq_false_iff_ne.mpr (a2 m u hm hn)
def rSIndex : V → List V → Hp → VK → Prop := fun x xs H Q => ∃ a b i rest, x = .str a ∧ xs = [.str b] ∧ Builtin.Str.occurrences a b 0 a.length 1 = i :: rest ∧ Q (.int (i : Nat)) H
theorem ev_sindex (h : EvE K te env fun e1 d => ∃ a : Str, d = .str a ∧ EvE K ta e1 fun e2 f => ∃ (b : Str) (i : Nat) (rest : List Nat), f = .str b ∧ Builtin.Str.occurrences a b 0 a.length 1 = i :: rest ∧ P e2 (.int (i : Nat))) : EvE K (tBM K "str" rSIndex te (tCons ta tNil)) env P := fun B σ G H Q I q =>
  h B σ G H _ I fun x G1 H1 e1 d1 p1 x1 I1 r1 => by
    obtain ⟨a, rfl, p1⟩ := p1
    cases r1
    refine ⟨rfl, ?_⟩
    refine p1 B σ G1 H1 _ I1 fun y G2 H2 e2 d2 p2 x2 I2 r2 => ?_
    obtain ⟨b, i, rest, rfl, ho, hp⟩ := p2
    cases r2
    exact ⟨a, b, i, rest, rfl, rfl, ho, q _ G2 H2 e2 _ hp (x1.trans x2) I2 (.int _)⟩
/-! ### a list or a tuple, walked -/
def iSeq (K : PySem.W.Frag) (te : TE) : TI := fun σ H R => iList K te σ H R ∨ iTup K te σ H R
theorem ei_seqL {Pl : En → List PyData → Prop} (h : EvI K (iList K te) env Pl) : EvI K (iSeq K te) env Pl := fun B σ G H R I q => .inl (h B σ G H R I q)
theorem ei_seqT {Pl : En → List PyData → Prop} (h : EvI K (iTup K te) env Pl) : EvI K (iSeq K te) env Pl := fun B σ G H R I q => .inr (h B σ G H R I q)
theorem km_seq {X : Cx} (m : KMark K) (hK : X.K = K) {tg e : Expr} (hl : PE X e te) : PI X tg e (iSeq K te) := by
  subst hK
  exact ⟨fun pins s σ H R I h => h.elim (fun h => (pi_list hl).run pins s σ H R I h) fun h => (pi_tup hl).run pins s σ H R I h⟩
/-! ### [.., *text] -/
def tStarS (te : TE) (t : TA) : TA := fun σ H Q => te σ H fun x H1 => ∃ z : Str, x = V.str z ∧ z.length ≤ sizeLine ∧ t σ H1 fun ys H2 => Q (z.cps.toList.map (fun c => V.str ⟨#[c]⟩) ++ ys) H2
theorem ea_starS {ts : TA} {Pl : En → List PyData → Prop} (h : EvE K te env fun e1 d => ∃ z : Str, d = .str z ∧ z.length ≤ sizeLine ∧ EvAs K ts e1 fun e2 ds => Pl e2 (signs z ++ ds)) : EvAs K (tStarS te ts) env Pl := fun B σ G H Q I q =>
  h B σ G H _ I fun x G1 H1 e1 d1 p1 x1 I1 r1 => by
    obtain ⟨z, rfl, hl, p1⟩ := p1
    cases r1
    refine ⟨z, rfl, hl, ?_⟩
    refine p1 B σ G1 H1 _ I1 fun vs G2 H2 e2 ds p2 x2 I2 r2 => ?_
    exact q _ G2 H2 e2 _ p2 (x1.trans x2) I2 ((signs_dd G2 _).append r2)
end
theorem star_str {X : Cx} {pins : List (Addr × Obj)} {σ : L2.St} {H : Hp} {s : Shared} {z : Str} {tk : Tok} {E : Value → Shared → Prop} {Q : List Value → Shared → Prop} (hc : X.A.handled = none) (I : Inv X pins σ H s) (hl : z.length ≤ sizeLine)
    (hQ : ∀ us s', Inv X pins σ H s' → Vals (z.cps.toList.map fun c => V.str ⟨#[c]⟩) us → Q us s') : PySem.W.StarOf (model X.prog X.w) X.A E (.str z tk) Q s := by
  have w1 : wpAny (model X.prog X.w) X.A (collect (.str z tk)) Q E s := by
    refine wpAny_collect_str hc z tk (fun s' acc hk hg hd ho hit => ?_) hl
    obtain ⟨h2, g2, d2, t2, o2⟩ := s'
    have eg : g2 = s.gens := hg
    have ed : d2 = s.drawn := hd
    have eo : o2 = s.os := ho
    subst eg ed eo
    refine hQ _ _ (I.kept hk) ?_
    have hS : StrsAre acc.toList (z.cps.toList.map fun c => (⟨#[c]⟩ : Str)) := L2.strs_at (by rw [Array.length_toList, hit.1, List.length_map, Array.length_toList]) fun j v e => by
      obtain ⟨c, u, h1, h2⟩ := hit.2 j v (by rw [← Array.getElem?_toList]; exact e)
      refine ⟨⟨#[c]⟩, u, ?_, h2⟩
      rw [List.getElem?_map, Array.getElem?_toList, h1]; rfl
    have := vals_of_strs hS
    rw [List.map_map] at this
    exact this
  unfold PySem.W.StarOf notIterableAtAll
  exact wpAny_bind (wpAny_specialOf (typeIs_str _ _ _) PySem.F.slot_str_iter.lookup (wpAny_pure ⟨rfl, w1⟩))
theorem pa_starS {X : Cx} {e : Expr} {es : List Expr} {te : TE} {t : TA} {p : Pos} (hc : X.calm = true) (he : PE X e te) (hr : PA X es t) (hs : starEach (.Starred e p :: es) X.env = (true, eval e X.env) :: starEach es X.env) : PA X (.Starred e p :: es) (tStarS te t) := by
  refine ⟨fun pos pins s σ H Q I h => ?_⟩
  refine PySem.W.items_star (thn (he.run pins s σ H _ I h) fun v s1 ⟨y, H1, I1, ry, z, ey, hl, q⟩ => ?_) hs
  subst ey
  obtain ⟨tk, rfl⟩ := ry
  refine star_str (I1.ok.hd hc) I1 hl fun us s2 I2 rv => ?_
  exact thn (hr.run pos pins s2 σ H1 _ I2 q) fun ws s3 ⟨vs, H3, I3, r3, q3⟩ => ⟨_ ++ vs, H3, I3, rv.append r3, q3⟩
end FD

set_option Elab.async false
set_option linter.all false
set_option maxRecDepth 100000
set_option maxHeartbeats 4000000
namespace FD
open PySem PySem.Spec PyProof.Rows L2
def tTru (K : PySem.W.Frag) (ta : TE) : TT := fun σ H Q => ta σ H fun x H' => ∃ k, TruV K x H' k ∧ Q k H'
theorem bMax0 : bootBuiltins "max" = some (.builtin "max") := by decide +kernel
section
variable {X : Cx} {K : PySem.W.Frag}
theorem km_maxDef (m : KMark K) (hK : X.K = K) {k : Nat} (hr : Room k X.A) {e e2 : Expr} {p pos kpos : Pos} {te tk : TE} (hc : X.calm = true) (hg : Gl X "max") (hm : X.mg "max" = none) (he : PE X e te) (hk : PE X e2 tk)
    (h1 : starEach [e] X.env = (false, eval e X.env) :: starEach [] X.env)
    (h2 : backTo pos (starEach [e] X.env) = (false, eval e X.env) :: backTo pos (starEach [] X.env)) (h3 : (backTo pos (starEach [e] X.env)).any (·.1) = false)
    (h4 : (backToKw pos (keywordEach [⟨some "default", e2, kpos⟩] X.env)).all (·.1.isSome) = true) (h5 : (backToKw pos (keywordEach [⟨some "default", e2, kpos⟩] X.env)).any (·.1.isNone) = false) (h6 : (backToKw pos (keywordEach [⟨some "default", e2, kpos⟩] X.env)).filterMap (·.1) = [Str.ofString "default"]) :
    PE X (.Call (.Name "max" p) [e] [⟨some "default", e2, kpos⟩] pos) (tCKw (rMaxDef K) (tCons te tNil) (tCons tk tNil)) := by
  subst hK
  exact pe_callBK (cr_maxDef hc hr) hg hm bMax0 (pa_cons he pa_nil h1) (pk_cons hk pk_nil) (by decide) (by decide) h2 h3 h4 h5 h6
theorem km_maxL (m : KMark K) (hK : X.K = K) {elt : Expr} {gs : List Comprehension} {sc : Scope} {p pos p2 : Pos} {te : TE} (hc : X.calm = true) (hg : Gl X "max") (hm : X.mg "max" = none) (he : PE X (.ListComp elt gs sc p2) te)
    (h1 : starEach [.ListComp elt gs sc p2] X.env = (false, eval (.ListComp elt gs sc p2) X.env) :: starEach [] X.env) (h2 : (backTo pos (starEach [] X.env)).any (·.1) = false) :
    PE X (.Call (.Name "max" p) [.ListComp elt gs sc p2] [] pos) (tCB (rMax K) (tCons te tNil)) := by
  subst hK
  exact pe_callB (cr_max hc) hg hm bMax0 (pa_cons he pa_nil h1) (by decide) (by decide) h1 h2
theorem km_lenSet {w : World} (m : KMark K) (hK : X.K = K) (hw : X.w = w) {e : Expr} {p p2 pos pos2 : Pos} {te : TE} (hc : X.calm = true) (hg : Gl X "len") (hm : X.mg "len" = none) (hg2 : Gl X "set") (hm2 : X.mg "set" = none) (he : PE X e te)
    (h1 : starEach [e] X.env = (false, eval e X.env) :: starEach [] X.env) (h2 : (backTo pos2 (starEach [] X.env)).any (·.1) = false) (h3 : (backTo pos (starEach [] X.env)).any (·.1) = false) :
    PE X (.Call (.Name "len" p) [.Call (.Name "set" p2) [e] [] pos2] [] pos) (tCB (rLenS w) (tCons (tCB (rSetI K w) (tCons te tNil)) tNil)) := by
  subst hK hw
  exact pe_callB cr_lenS hg hm PySem.boot_len (pa_cons (pe_callTy (cr_setI hc) hg2 hm2 bSet (pa_cons he pa_nil h1) (by decide) (by decide) h1 h2) pa_nil (by rfl)) (by decide) (by decide) (by rfl) h3
theorem km_sortSc1 {w : World} (m : KMark K) (hK : X.K = K) (hw : X.w = w) {i : Nat} {x : Str} {px p pos pos2 : Pos} {elt iter : Expr} {ifs : List Expr} {scope : Scope} {wi : TI} {tt : TT} {te : TE} (hc : X.calm = true) (hN : X.N.Nodup)
    (hgl : Gl X "sorted") (hmg : X.mg "sorted" = none)
    (hg : ∀ (s : Shared) (H : Hp) (C : Addr) (cl : List (Str × Addr)) (fp : List Addr), PG (X.blk s H scope (compEnvC scope cl C X.env) fp) (.Name x px) (gName i))
    (ok : blkC X.N X.env.scope scope [(x, i)] = true) (hi : PI X (.Name x px) iter wi)
    (ht : ∀ (s : Shared) (H : Hp) (C : Addr) (cl : List (Str × Addr)) (fp : List Addr), PTs (X.blk s H scope (compEnvC scope cl C X.env) fp) ifs tt)
    (he : ∀ (s : Shared) (H : Hp) (C : Addr) (cl : List (Str × Addr)) (fp : List Addr), PE (X.blk s H scope (compEnvC scope cl C X.env) fp) elt te)
    (hs : ∀ z, foldedSetIterable iter X.env z = pure z) :
    PE X (.Call (.Name "sorted" p) [.SetComp elt [⟨.Name x px, iter, ifs, 0⟩] scope pos2] [] pos)
      (tCB (rSortedSet w) (tCons (tSc1 w wi (gName i) tt te [i]) tNil)) := by
  subst hK hw
  have e := pe_sc1 (own := [(x, i)]) (pos := pos2) hc hN hi (blkOk_by ok) hg ht he hs
  exact pe_callB (cr_sortedSet hc) hgl hmg bSorted (pa_cons e pa_nil (by rfl)) (by decide) (by decide) (by rfl) (by rfl)
theorem km_twoleG (m : KMark K) (hK : X.K = K) {k : Nat} (hr : Room k X.A) {a b : Expr} {ta tb : TE} {pos : Pos} (ha : PE X a ta) (hb : PE X b tb) : PE X (.Compare a [.LtE] [b] pos) (tOp (rTwo K (fun i j => decide (i ≤ j)) true) ta tb) := by
  subst hK
  exact pe_cmpR (op_twole (Nat.lt_of_succ_lt (Room.u1 hr))) ha hb (nomark _)
theorem kt_ninD (m : KMark K) (hK : X.K = K) {k : Nat} (hr : Room k X.A) {a b : Expr} {ta tb : TE} {pos : Pos} (ha : PE X a ta) (hb : PE X b tb) (hm : behindInMarks .NotIn b = false) : PT X (.Compare a [.NotIn] [b] pos) (tTest (tOp (rNotInD K) ta tb)) := by
  subst hK
  exact pt_cmpR (op_notInD (by have := Room.u64 hr; have := hr.un; omega)) ha hb hm
theorem km_lcTT (m : KMark K) (hK : X.K = K) {i j : Nat} {y1 y2 : Str} {p1 p2 pt pos : Pos} {kt : Nat} {elt iter : Expr} {ifs : List Expr} {scope : Scope} {wi : TI} {tt : TT} {te : TE} (hc : X.calm = true) (hN : X.N.Nodup)
    (hg : ∀ (s : Shared) (H : Hp) (C : Addr) (cl : List (Str × Addr)) (fp : List Addr), PG (X.blk s H scope (compEnvC scope cl C X.env) fp) (.Tuple [.Name y1 p1, .Name y2 p2] kt pt) (gTup K 2 (gCons (gName i) (gCons (gName j) gNil))))
    (ok : blkC X.N X.env.scope scope [(y1, i), (y2, j)] = true) (hi : PI X (.Tuple [.Name y1 p1, .Name y2 p2] kt pt) iter wi)
    (ht : ∀ (s : Shared) (H : Hp) (C : Addr) (cl : List (Str × Addr)) (fp : List Addr), PTs (X.blk s H scope (compEnvC scope cl C X.env) fp) ifs tt)
    (he : ∀ (s : Shared) (H : Hp) (C : Addr) (cl : List (Str × Addr)) (fp : List Addr), PE (X.blk s H scope (compEnvC scope cl C X.env) fp) elt te)
    (hs : ∀ z, foldedSetIterable iter X.env z = pure z) :
    PE X (.ListComp elt [⟨.Tuple [.Name y1 p1, .Name y2 p2] kt pt, iter, ifs, 0⟩] scope pos) (tLc wi (gTup K 2 (gCons (gName i) (gCons (gName j) gNil))) tt te [i, j]) :=
  pe_lc (own := [(y1, i), (y2, j)]) hc hN hi (blkOk_by ok) hg ht he hs
theorem km_slcTT (m : KMark K) (hK : X.K = K) {N : List Str} {i j l : Nat} {y y1 y2 : Str} {py p1 p2 pt pos spos : Pos} {kt : Nat} {elt iter : Expr} {ifs : List Expr} {scope : Scope} {wi : TI} {tt : TT} {te : TE} (hc : X.calm = true) (hN : X.N.Nodup) (hl : N[l]? = some y) (hX : X.N = N)
    (hy : X.env.scope.names.lookup y = some .local) (hf : X.env.scope.kind = .function) (hli : (py.line == pos.line) = true) (ha : (scope.names.any fun (n, k) => n == y && (k == .local || k == .cell)) = false)
    (hg : ∀ (s : Shared) (H : Hp) (C : Addr) (cl : List (Str × Addr)) (fp : List Addr), PG (X.blk s H scope (compEnvC scope cl C X.env) fp) (.Tuple [.Name y1 p1, .Name y2 p2] kt pt) (gTup K 2 (gCons (gName i) (gCons (gName j) gNil))))
    (ok : blkC X.N X.env.scope scope [(y1, i), (y2, j)] = true) (hi : PI X (.Tuple [.Name y1 p1, .Name y2 p2] kt pt) iter wi)
    (ht : ∀ (s : Shared) (H : Hp) (C : Addr) (cl : List (Str × Addr)) (fp : List Addr), PTs (X.blk s H scope (compEnvC scope cl C X.env) fp) ifs tt)
    (he : ∀ (s : Shared) (H : Hp) (C : Addr) (cl : List (Str × Addr)) (fp : List Addr), PE (X.blk s H scope (compEnvC scope cl C X.env) fp) elt te)
    (hs : ∀ z, foldedSetIterable iter X.env z = pure z) :
    PS X (.Assign [.Name y py] (.ListComp elt [⟨.Tuple [.Name y1 p1, .Name y2 p2] kt pt, iter, ifs, 0⟩] scope pos) spos) (tAsg (tLc wi (gTup K 2 (gCons (gName i) (gCons (gName j) gNil))) tt te [i, j]) (gName l)) :=
  ps_setLc (own := [(y1, i), (y2, j)]) hc hN (by rw [hX]; exact hl) hy (sw_true hf hy hli ha) hi (blkOk_by ok) hg ht he hs
theorem km_keys (m : KMark K) (hK : X.K = K) {i : Nat} {x : Str} {px pos : Pos} {elt iter : Expr} {scope : Scope} {td te : TE} (hc : X.calm = true) (hN : X.N.Nodup)
    (hg : ∀ (s : Shared) (H : Hp) (C : Addr) (cl : List (Str × Addr)) (fp : List Addr), PG (X.blk s H scope (compEnvC scope cl C X.env) fp) (.Name x px) (gName i))
    (ok : blkC X.N X.env.scope scope [(x, i)] = true) (hi : PE X iter td)
    (he : ∀ (s : Shared) (H : Hp) (C : Addr) (cl : List (Str × Addr)) (fp : List Addr), PE (X.blk s H scope (compEnvC scope cl C X.env) fp) elt te)
    (hs : ∀ z, foldedSetIterable iter X.env z = pure z) :
    PE X (.ListComp elt [⟨.Name x px, iter, [], 0⟩] scope pos) (tLockE (tLc (iKeys td) (gName i) tYes te [i])) :=
  pe_lock (pe_lc (own := [(x, i)]) hc hN (pi_keys hi) (blkOk_by ok) hg (fun _ _ _ _ _ => pts_nil) he hs)
theorem km_index (m : KMark K) (hK : X.K = K) {o e : Expr} {te : TE} {t : TA} {apos cpos : Pos} (ho : PE X o te) (ha : PA X [e] t)
    (h1 : attributeBase o "index" X.env (eval o X.env) = eval o X.env)
    (h2 : ((backTo cpos (starEach [e] X.env)).all (fun x => !x.1) && (backToKw cpos (keywordEach [] X.env)).all (fun x => x.1.isSome) && decide (([e] : List Expr).length + ([] : List Keyword).length + (if ([] : List Keyword).isEmpty then 0 else 1) < 30)) = true)
    (h3 : (apos.endLine == cpos.line) = true) (h4 : starEach [e] X.env = (false, eval e X.env) :: starEach [] X.env) (h5 : (backTo cpos (starEach [] X.env)).any (·.1) = false) :
    PE X (.Call (.Attribute o "index" apos) [e] [] cpos) (tBM K "list" (rIndex K) te t) := by
  subst hK
  exact pe_bm F.plainAttrs_list F.slot_list_index F.type_list_index mt_index ho ha h1 h2 h3 h4 h5
theorem km_sindex (m : KMark K) (hK : X.K = K) {o e : Expr} {te : TE} {t : TA} {apos cpos : Pos} (ho : PE X o te) (ha : PA X [e] t)
    (h1 : attributeBase o "index" X.env (eval o X.env) = eval o X.env)
    (h2 : ((backTo cpos (starEach [e] X.env)).all (fun x => !x.1) && (backToKw cpos (keywordEach [] X.env)).all (fun x => x.1.isSome) && decide (([e] : List Expr).length + ([] : List Keyword).length + (if ([] : List Keyword).isEmpty then 0 else 1) < 30)) = true)
    (h3 : (apos.endLine == cpos.line) = true) (h4 : starEach [e] X.env = (false, eval e X.env) :: starEach [] X.env) (h5 : (backTo cpos (starEach [] X.env)).any (·.1) = false) :
    PE X (.Call (.Attribute o "index" apos) [e] [] cpos) (tBM K "str" rSIndex te t) := by
  subst hK
  exact pe_bm F.plainAttrs_str F.slot_str_index F.type_str_index mt_sindex ho ha h1 h2 h3 h4 h5
theorem kt_tru (m : KMark K) (hK : X.K = K) {a : Expr} {ta : TE} (ha : PE X a ta) (he : ∀ whole, isTrue a X.env whole = (do let v ← whole; standAt a.pos; holding [v] (truthy v))) : PT X a (tTru K ta) := by
  subst hK
  exact pt_truth ha he
end
section
variable {K : PySem.W.Frag} {env : En} {te ta tb : TE}
theorem eb_truT {P : En → Bool → Prop} (h : EvE K te env fun e1 d => ∃ ds, d = .tuple ds ∧ P e1 (!ds.isEmpty)) : EvB K (tTru K te) env P := fun B σ G H Q I q =>
  h B σ G H _ I fun x G1 H1 e1 d1 p1 x1 I1 r1 => by
    obtain ⟨ds, rfl, hp⟩ := p1
    cases r1 with
    | @tup a xs _ h1 r1 =>
      have e : xs.isEmpty = ds.isEmpty := by
        have := r1.length
        cases xs <;> cases ds <;> simp_all
      exact ⟨!xs.isEmpty, .inr (.inl ⟨xs, SqT.of (I1.exH _ _ h1), rfl⟩), by rw [e]; exact q _ G1 H1 e1 hp x1 I1⟩
theorem eb_truL {P : En → Bool → Prop} (h : EvE K te env fun e1 d => ∃ ds, d = .list ds ∧ P e1 (!ds.isEmpty)) : EvB K (tTru K te) env P := fun B σ G H Q I q =>
  h B σ G H _ I fun x G1 H1 e1 d1 p1 x1 I1 r1 => by
    obtain ⟨ds, rfl, hp⟩ := p1
    cases r1 with
    | @lst a xs _ h1 r1 =>
      have e : xs.isEmpty = ds.isEmpty := by
        have := r1.length
        cases xs <;> cases ds <;> simp_all
      exact ⟨!xs.isEmpty, .inl ⟨xs, SqL.of (I1.exH _ _ h1), rfl⟩, by rw [e]; exact q _ G1 H1 e1 hp x1 I1⟩
theorem ev_din {P : En → PyData → Prop} (h : EvE K ta env fun e1 d => EvE K tb e1 fun e2 dd => ∃ x ds, d = .str x ∧ dd = .dict ds ∧ P e2 (.bool (lkD x ds).isSome)) : EvE K (tDIn ta tb) env P := fun B σ G H Q I q =>
  h B σ G H _ I fun y G1 H1 e1 d1 p1 x1 I1 r1 => p1 B σ G1 H1 _ I1 fun z G2 H2 e2 d2 p2 x2 I2 r2 => by
    obtain ⟨x, ds, rfl, rfl, hp⟩ := p2
    cases r1
    cases r2 with
    | dct h1 h2 =>
      refine ⟨_, _, rfl, DGet.k (k := .inr x) (I2.exH _ _ h1), ?_⟩
      rename_i a0 kvs0
      have e : (valV kvs0 (Sum.inr x)).isSome = (lkD x ds).isSome := by
        rcases h2.lk (x := x) with ⟨a, b⟩ | ⟨v, d, a, b, _⟩
        · rw [a, b]; rfl
        · rw [a, b]; rfl
      rw [e]
      exact q _ G2 H2 e2 _ hp (x1.trans x2) I2 (.bl _)
end
end FD

set_option Elab.async false
set_option linter.all false
set_option maxRecDepth 100000
set_option maxHeartbeats 4000000
namespace FD
open PySem PySem.Spec PyProof.Rows L2
/-! ### defs that may let an exception out -/
section
variable (P : Program) (w : World) (K : PySem.W.Frag) (mg : Str → Option Value) (base : Heap)
structure FnX (k : Nat) (f : Addr) (fd : FuncData) (ps : List Str) (sp : Sp) : Prop where
  len : ∀ vs H Q E, sp vs H Q E → vs.length = ps.length
  run : ∀ (A : Around) (outer : List PySem.Env) (s : Shared) (H : Hp) (args : Args) (us : List Value) (vs : List V) (Q : VK) (E : XK), A.guards = some [] → Room k A → Env0 P w K mg base A outer s H →
    BindsTo s fd args (ps.zip us) → Vals vs us → sp vs H Q E → codeAny (model P w) A (.call (.ref f) args) (CR (L2.CX P w) outer P w H s Q E) s
structure CalX (k : Nat) (x : Str) (ps : List Str) (sp : Sp) : Prop where
  ex : ∃ f fd, FnX P w K mg base k f fd ps sp ∧ mg x = some (.ref f) ∧ PySem.W.keepIn K (.ref f) = true ∧ Binds K fd ps []
end
section
variable {P : Program} {w : World} {K : PySem.W.Frag} {mg : Str → Option Value} {base : Heap}
theorem fnX_of {x qual : Str} {st : Stmt} {f : Addr} {fd : FuncData} {N ps : List Str} {k : Nat} {sp : Sp} (F : L2.Fun K x qual st f fd) (S : FnScope N ps (defScope st)) (len : ∀ vs H Q E, sp vs H Q E → vs.length = ps.length)
    (hb : ∀ (cdv : Value) (A : Around) (outer : List PySem.Env) (s : Shared) (H : Hp) (vs : List V) (Q : VK) (E : XK), A.guards = some [] → Room k (A.deeper (envOfC qual (defScope st) s.heap.objs.size f cdv)) → sp vs H Q E →
      ∃ t, PSs (cxOf (L2.CX P w) P w K mg base N qual (defScope st) f cdv A outer s H E) (defBody st) t ∧ t { nx := fun _ H' => Q .non H', rt := Q } (start N vs) H) : FnX P w K mg base (k + 1) f fd ps sp := by
  obtain ⟨oc, od, kV, doc, pm, an, cdv, ct, osl, rfl, lk, hcd⟩ := F.ex
  refine ⟨len, fun A outer s H args us vs Q E hg room e0 bd rel hsp => ?_⟩
  have hln := len _ _ _ _ hsp
  have kin : K.In s.heap := e0.mod.kin.keeps fun b o z => (e0.bs b o z).1
  have nl : s.heap.NoLimit := e0.mod.nolimit.keeps fun b o z => (e0.bs b o z).1
  have kinds : ∀ z ∈ ps.zip us, (defScope st).names.lookup z.1 = some .local ∨ ((defScope st).names.lookup z.1 = some .cell ∧ ((cellsFrom (s.heap.objs.size + 1) (defScope st).names []).lookup z.1).isSome = true) := by
    rintro ⟨m, v⟩ hz
    rcases S.par m (List.of_mem_zip hz).1 with q | q
    · exact .inl q
    · exact .inr ⟨q, PySem.W.cellsFrom_some _ _ _ (.inl q)⟩
  refine codeAny_call_function room.depth (kin _ _ lk) rfl S.co S.gen rfl (PySem.W.codeRec_of kin hcd) (bd _ _ _ _ ?_)
  refine wpAny_newFunctionEnv_cells S.kind kinds fun env henv s1 hx => ?_
  subst henv
  refine ⟨nl.keeps hx.toInCall.keep, codeAny_func ?_⟩
  obtain ⟨t, ht, hq⟩ := hb cdv A outer s H vs Q E hg (room.deeper _) hsp
  have J : Inv (cxOf (L2.CX P w) P w K mg base N qual (defScope st) f cdv A outer s H E) [] (start N vs) H s1 := inv_start S room.hd e0 hln rel hx
  refine wpAny_mono (ht.run [] s1 (start N vs) H _ J hq) (fun fl s2 h2 => ?_) fun e s2 h2 => h2
  cases fl with
  | ret u =>
    obtain ⟨v, σ', H', J', rv, q⟩ := h2
    exact ⟨v, H', J'.os, J'.bare, J'.base, J'.hok, rv, q⟩
  | next =>
    obtain ⟨σ', H', J', q⟩ := h2
    exact ⟨.non, H', J'.os, J'.bare, J'.base, J'.hok, rfl, q⟩
  | brk => obtain ⟨_, _, _, q⟩ := h2; exact q.elim
  | cont => obtain ⟨_, _, _, q⟩ := h2; exact q.elim
theorem FnX.mono {j k : Nat} {f : Addr} {fd : FuncData} {ps : List Str} {sp : Sp} (F : FnX P w K mg base j f fd ps sp) (h : j ≤ k) : FnX P w K mg base k f fd ps sp :=
  ⟨F.len, fun A outer s H args us vs Q E hg hr => F.run A outer s H args us vs Q E hg (hr.mono h)⟩
end
/-- a call of such a def, what it lets out told by W -/
def tCallX (sp : Sp) (W : WX) (t : TA) : TE := fun σ H Q => t σ H fun vs H1 => sp vs H1 Q fun c d H2 => W c d σ H2
section
variable {X : Cx} {k : Nat} {ps : List Str} {sp : Sp} {x : Str} {p pos : Pos} {e : Expr} {es : List Expr} {t : TA} {W : WX}
theorem pe_calX {m : Nat} (tk : Takes X W) (C : CalX X.prog X.w X.K X.mg X.base k x ps sp) (hg : X.A.guards = some []) (hr : Room m X.A) (hkm : k ≤ m) (hx : Gl X x) (ha : PA X (e :: es) t) (hdb : (x == ("__debug__" : Str)) = false := by decide)
    (he : starEach (e :: es) X.env = (false, eval e X.env) :: starEach es X.env := by rfl) (hpl : (backTo pos (starEach es X.env)).any (·.1) = false := by rfl) :
    PE X (.Call (.Name x p) (e :: es) [] pos) (tCallX sp W t) := by
  obtain ⟨f, fd, F, hm, hk, hb⟩ := C.ex
  refine ⟨fun pins s σ H Q J h => wpAny_Call_Name_kw (ld_glob J hx hm ?_ hdb)⟩
  refine PySem.W.callWith_K (h₀ := X.base) J.ok.mod.kin hk (thn (ha.run pos pins s σ H _ J h) fun us s1 ⟨vs, H1, J1, r, q⟩ => ⟨J1.kIn, ?_⟩) he hpl
  have hl : (us ++ []).length = ps.length := by rw [List.append_nil, ← r.length]; exact F.len _ _ _ _ q
  have bd := hb s1 us J1.kIn hl
  rw [List.append_nil] at bd
  refine wpAny_call (codeAny_mono (F.run X.A X.stack s1 H1 ⟨us, []⟩ us vs Q _ hg (hr.mono hkm) J1.env0 bd r q) fun rr s' hq => ?_)
  cases rr with
  | error u => exact passAt tk σ pins H1 s1 u s' J1 hq
  | ok fl =>
    cases fl with
    | ret u => exact J1.after hq
    | next => exact False.elim hq
    | brk => exact False.elim hq
    | cont => exact False.elim hq
end
/-! ### promises that may break -/
def spX (n : Nat) (pre : List PyData → Prop) (post : List PyData → PyData → Prop) (exc : List PyData → Value → Prop) : Sp := fun vs H Q E => ∃ (G : Hp) (ds : List PyData), Ex G H ∧ DdAll G vs ds ∧ ds.length = n ∧ pre ds ∧
  (∀ v G' H' d, post ds d → Ex G G' → Ex G' H' → Ex H H' → (∀ q o, H q = some o → G q = none → G' q = none) → Dd G' v d → Q v H') ∧
  (∀ cls G' H', exc ds cls → Ex G G' → Ex G' H' → Ex H H' → (∀ q o, H q = some o → G q = none → G' q = none) → E cls none H')
/-- as EvS; what is let out is told by R, and W asks for it -/
def EvSX (K : PySem.W.Frag) (W : WX) (t : TS) (env : En) (O : Outs) (R : Value → En → Prop) : Prop :=
  ∀ (B : Bs) (σ : L2.St) (G H : Hp) (D : Ends), EnvOk K B G H σ env →
    (∀ σ' G' H' env', O.nx env' → Ex G G' → EnvOk K B G' H' σ' env' → D.nx σ' H') →
    (∀ v G' H' σ' env' d, O.rt env' d → Ex G G' → EnvOk K B G' H' σ' env' → Dd G' v d → D.rt v H') →
    (∀ σ' G' H' env', O.bk env' → Ex G G' → EnvOk K B G' H' σ' env' → D.bk σ' H') →
    (∀ σ' G' H' env', O.ct env' → Ex G G' → EnvOk K B G' H' σ' env' → D.ct σ' H') →
    (∀ F p σ' G' H' env', O.rn F env' → Ex G G' → EnvOk K B G' H' σ' env' → G' p = none → F G' H' p → B.H p = none → D.rt (.ref p) H') →
    (∀ cls σ' G' H' env', R cls env' → Ex G G' → EnvOk K B G' H' σ' env' → W cls none σ' H') → t D σ H
section
variable {K : PySem.W.Frag} {W : WX} {env : En} {O : Outs} {t u : TS} {R : Value → En → Prop} {ta : TA} {pre : List PyData → Prop} {post : List PyData → PyData → Prop} {exc : List PyData → Value → Prop} {n : Nat}
theorem ex_of (h : EvS K t env O) : EvSX K W t env O R := fun B σ G H D I a b c d f _ => h B σ G H D I a b c d f
theorem ex_seq (h : EvSX K W t env { O with nx := fun e1 => EvSX K W u e1 O R } R) : EvSX K W (tSeq t u) env O R := fun B σ G H D I a b c d f x =>
  h B σ G H { D with nx := u D } I (fun σ1 G1 H1 e1 p1 x1 I1 => p1 B σ1 G1 H1 D I1 (fun σ2 G2 H2 e2 p2 x2 I2 => a σ2 G2 H2 e2 p2 (x1.trans x2) I2) (fun v G2 H2 σ2 e2 d2 p2 x2 I2 r2 => b v G2 H2 σ2 e2 d2 p2 (x1.trans x2) I2 r2)
    (fun σ2 G2 H2 e2 p2 x2 I2 => c σ2 G2 H2 e2 p2 (x1.trans x2) I2) (fun σ2 G2 H2 e2 p2 x2 I2 => d σ2 G2 H2 e2 p2 (x1.trans x2) I2) (fun F q σ2 G2 H2 e2 p2 x2 => f F q σ2 G2 H2 e2 p2 (x1.trans x2)) (fun cls σ2 G2 H2 e2 p2 x2 I2 => x cls σ2 G2 H2 e2 p2 (x1.trans x2) I2)) b c d f x
theorem ex_if {tt : TT} (h : EvB K tt env fun e1 c => (c = true → EvSX K W t e1 O R) ∧ (c = false → EvSX K W u e1 O R)) : EvSX K W (tIfS tt t u) env O R := fun B σ G H D I a b c d f x =>
  h B σ G H _ I fun k G1 H1 e1 p1 x1 I1 => by
    have go : ∀ {t : TS}, EvSX K W t e1 O R → t D σ H1 := fun {t} ht => ht B σ G1 H1 D I1 (fun σ2 G2 H2 e2 p2 x2 I2 => a σ2 G2 H2 e2 p2 (x1.trans x2) I2) (fun v G2 H2 σ2 e2 d2 p2 x2 I2 r2 => b v G2 H2 σ2 e2 d2 p2 (x1.trans x2) I2 r2)
      (fun σ2 G2 H2 e2 p2 x2 I2 => c σ2 G2 H2 e2 p2 (x1.trans x2) I2) (fun σ2 G2 H2 e2 p2 x2 I2 => d σ2 G2 H2 e2 p2 (x1.trans x2) I2) (fun F q σ2 G2 H2 e2 p2 x2 => f F q σ2 G2 H2 e2 p2 (x1.trans x2)) (fun cls σ2 G2 H2 e2 p2 x2 I2 => x cls σ2 G2 H2 e2 p2 (x1.trans x2) I2)
    cases k with
    | true => exact iteT (go (p1.1 rfl))
    | false => exact iteF (go (p1.2 rfl))
/-- raise C(..) -/
def tRaise (W : WX) (C : Value) : TS := fun _ σ H => W C none σ H
theorem ex_raise {C : Value} (h : R C env) : EvSX K W (tRaise W C) env O R := fun B σ G H D I a b c d f x => x C σ G H env h (Ex.refl G) I
/-- a call as a statement -/
theorem ex_drop (h : EvAs K ta env fun e1 ds => ds.length = n ∧ pre ds ∧ (∀ d, post ds d → O.nx e1) ∧ ∀ cls, exc ds cls → R cls e1) : EvSX K W (tDrop (tCallX (spX n pre post exc) W ta)) env O R := fun B σ G H D I a b c d f x =>
  h B σ G H _ I fun vs G1 H1 e1 ds p1 x1 I1 r1 => ⟨G1, ds, I1.exH, r1, p1.1, p1.2.1, fun v G2 H2 dd pd x2 x3 x4 fr rd => a σ G2 H2 e1 (p1.2.2.1 dd pd) (x1.trans x2) (I1.went x2 x3 x4 fr),
    fun cls G2 H2 pe x2 x3 x4 fr => x cls σ G2 H2 e1 (p1.2.2.2 cls pe) (x1.trans x2) (I1.went x2 x3 x4 fr)⟩
/-- return a call -/
theorem ex_retC (h : EvAs K ta env fun e1 ds => ds.length = n ∧ pre ds ∧ (∀ d, post ds d → O.rt e1 d) ∧ ∀ cls, exc ds cls → R cls e1) : EvSX K W (tRet (tCallX (spX n pre post exc) W ta)) env O R := fun B σ G H D I a b c d f x =>
  h B σ G H _ I fun vs G1 H1 e1 ds p1 x1 I1 r1 => ⟨G1, ds, I1.exH, r1, p1.1, p1.2.1, fun v G2 H2 dd pd x2 x3 x4 fr rd => b v G2 H2 σ e1 dd (p1.2.2.1 dd pd) (x1.trans x2) (I1.went x2 x3 x4 fr) rd,
    fun cls G2 H2 pe x2 x3 x4 fr => x cls σ G2 H2 e1 (p1.2.2.2 cls pe) (x1.trans x2) (I1.went x2 x3 x4 fr)⟩
end
section
variable {P : Program} {w : World} {K : PySem.W.Frag} {mg : Str → Option Value} {base : Heap} {x qual : Str} {st : Stmt} {f : Addr} {fd : FuncData} {N ps : List Str} {k : Nat}
theorem fnX (F : L2.Fun K x qual st f fd) (S : FnScope N ps (defScope st)) (pre : List PyData → Prop) (post : List PyData → PyData → Prop) (exc : List PyData → Value → Prop)
    (hb : ∀ (cdv : Value) (A : Around) (outer : List PySem.Env) (s : Shared) (H : Hp) (E : XK), A.guards = some [] → Room k (A.deeper (envOfC qual (defScope st) s.heap.objs.size f cdv)) →
      Takes (cxOf (L2.CX P w) P w K mg base N qual (defScope st) f cdv A outer s H E) (fun cls d _ H' => E cls d H') →
      ∃ t, PSs (cxOf (L2.CX P w) P w K mg base N qual (defScope st) f cdv A outer s H E) (defBody st) t ∧
        ∀ ds : List PyData, ds.length = ps.length → pre ds → EvSX K (fun cls d _ H' => E cls d H') t (stD N.length ds) { nx := fun _ => post ds .none, rt := fun _ d => post ds d } fun cls _ => exc ds cls) :
    FnX P w K mg base (k + 1) f fd ps (spX ps.length pre post exc) := by
  refine fnX_of F S (fun vs H Q E ⟨G, ds, _, r, hl, _⟩ => r.length.trans hl) fun cdv A outer s H vs Q E hg hr ⟨G, ds, e, r, hl, hp, q, q2⟩ => ?_
  have tk : Takes (cxOf (L2.CX P w) P w K mg base N qual (defScope st) f cdv A outer s H E) (fun cls d _ H' => E cls d H') := takes_of rfl rfl rfl rfl
  obtain ⟨t, ht, ev⟩ := hb cdv A outer s H E hg hr tk
  refine ⟨t, ht, ev ds hl hp _ _ G H _ (startD e r) (fun σ' G' H' env' p x' I => ?_) (fun v G' H' σ' env' d p x' I rd => ?_) (fun _ _ _ _ z => z.elim) (fun _ _ _ _ z => z.elim) (fun _ _ _ _ _ _ z => z.elim) (fun cls σ' G' H' env' p x' I => ?_)⟩
  · exact q .non G' H' .none p x' I.exH (fun a o h => I.keep a o h fun z => z) (fun a o h g => I.nog a o h g) .non
  · exact q v G' H' d p x' I.exH (fun a o h => I.keep a o h fun z => z) (fun a o h g => I.nog a o h g) rd
  · exact q2 cls G' H' p x' I.exH (fun a o h => I.keep a o h fun z => z) (fun a o h g => I.nog a o h g)
end
end FD

set_option Elab.async false
set_option linter.all false
set_option maxRecDepth 100000
set_option maxHeartbeats 4000000
namespace FD
open PySem PySem.Spec PyProof.Rows L2
/-! ### an exception that was caught and is kept -/
/-- at a lies an exception of the class cls -/
def ErrAt (cls : Value) (d : Option Addr) (a : Addr) : HO := .ext fun h => ∃ (oe : Obj) (vs : Array Value), h.get? a = some oe ∧ Zc cls d oe ∧ oe.data = .fields vs
section
variable {X : Cx} {pins : List (Addr × Obj)} {σ : L2.St} {H : Hp} {s : Shared}
/-- what is pinned, and is new since the entry, may be told by the heap instead -/
theorem pin_told {a : Addr} {oe : Obj} {vs : Array Value} {cls : Value} {d : Option Addr} (I : Inv X ((a, oe) :: pins) σ H s) (z : Zc cls d oe) (hd : oe.data = .fields vs) (new : X.s_0.heap.get? a = none) (others : ∀ p ∈ X.pn ++ pins, p.1 ≠ a) :
    Inv X pins σ (upd H a (ErrAt cls d a)) s := by
  obtain ⟨there, na, nL, _, _⟩ := I.pin (a, oe) (List.mem_append_right _ List.mem_cons_self)
  have ne : ∀ {b : Addr} {o : HO}, H b = some o → b ≠ a := fun q e => by rw [e] at q; rw [show H a = none from na] at q; cases q
  have sub : ∀ {b : Addr} {o : HO}, H b = some o → (upd H a (ErrAt cls d a)) b = some o := fun q => by rw [upd_ne (ne q)]; exact q
  refine ⟨I.ok, I.os, I.bare, ⟨I.base.keep, I.base.slot, fun b o e n hx => ?_, I.base.there, fun b xs q => sub (I.base.tups b xs q), fun b o u q => sub (I.base.frzs b o u q), fun b ps q => ?_⟩, I.loc, I.cell, ?_, fun x c hc => ?_, fun p hp => ?_, fun b o e => ?_, I.len⟩
  · rw [upd_ne (fun w => by rw [w, new] at e; cases e)]
    exact I.base.free b o e n hx
  · obtain ⟨more, q⟩ := I.base.tbls b ps q
    exact ⟨more, sub q⟩
  · rw [upd_ne (fun w => nL w.symm)]
    exact I.free
  · have ca : c ≠ a := fun w => by
      obtain ⟨v, o, ho, hv⟩ := I.cell x c hc
      rw [w, there] at ho
      cases ho
      have hv' : oe.data = .cell v := hv
      rw [hd] at hv'; cases hv'
    rw [upd_ne ca]
    exact I.freeC x c hc
  · obtain ⟨e1, e2, e3⟩ := I.pin p (by
      rcases List.mem_append.mp hp with q | q
      · exact List.mem_append_left _ q
      · exact List.mem_append_right _ (List.mem_cons_of_mem _ q))
    exact ⟨e1, by rw [upd_ne (others p hp)]; exact e2, e3⟩
  · by_cases w : b = a
    · subst w
      rw [upd_same] at e
      cases e
      exact ⟨⟨oe, vs, there, z, hd⟩, ⟨oe, there⟩, fun _ _ ⟨o, v, q, r⟩ k => ⟨o, v, k o q, r⟩⟩
    · rw [upd_ne w] at e
      exact (I.hok b o e).stay (fun c v _ q => q) (fun c q => by rw [upd_ne (ne_of_none q na)]; exact q) fun c xs q => by rw [upd_ne (ne_of_none q na)]; exact q
end
/-- what 'except x as n' wishes, where it takes all that comes: slot i is n's; behind the clause the heap tells the exception -/
def wKeep (K : PySem.W.Frag) (c : Value) (i : Nat) (ts : Addr → Value → Option Addr → TS) (D : Ends) : WX := fun cls d σ H => PySem.W.exmOne K cls c = some true ∧
  ∀ a, H a = none → ts a cls d { nx := fun σ' H' => D.nx (σ'.set i none) (upd H' a (ErrAt cls d a)), rt := fun _ _ => False } (σ.set i (some (.ref a))) H
section
variable {X : Cx} {x n : Str} {c : Value} {i : Nat} {body suite : List Stmt} {b₀ : Stmt} {np pos pos' : Pos} {tb : WX → TS} {ts : Addr → Value → Option Addr → TS}
theorem ps_tryKeep (hs : X.stack = X.env :: X.outer) (hf : X.env.frame = some X.env.locals) (hex : X.ex = []) (hN : X.N.Nodup) (hi : X.N[i]? = some n) (hln : X.env.kindOf n = some .local) (hc : Names X x c)
    (hb : ∀ (W : WX) (pn : List (Addr × Obj)) (xe : Value → Shared → Prop), Takes (X.tr pn xe) W → PassesOwn (model X.prog X.w) X.A X.env xe → PSs (X.tr pn xe) body (tb W))
    (hsu : ∀ (a : Addr) (oe : Obj) (cls : Value) (d : Option Addr) (pn : List (Addr × Obj)), Zc cls d oe → (∃ vs, oe.data = .fields vs) → PSs (X.suite a ((a, oe) :: pn)) (b₀ :: suite) (ts a cls d)) :
    PS X (.Try body [.ExceptHandler (some (.Name x np)) (some n) (b₀ :: suite) pos'] [] [] pos) (fun D σ H => tb (wKeep X.K c i ts D) D σ H) := by
  refine ⟨fun pins s σ H D I h => wpAny_Try_except ?_⟩
  have ok := I.ok
  have frames : X.A.frames = some (X.env :: X.outer) := by rw [ok.frames, hs]
  let out : Value → Shared → Prop := fun e s₁ => wpAny (model X.prog X.w) X.A (noteFrame e X.env) (fun _ s₂ => wpAny (model X.prog X.w) X.A (setFlight e none) (fun _ s₃ =>
    wpAny (model X.prog X.w) X.A (handleBy e X.env [.ExceptHandler (some (.Name x np)) (some n) (b₀ :: suite) pos']) (SP X pins D) X.xe s₃) X.xe s₂) X.xe s₁
  have takes : Takes (X.tr (X.pn ++ pins) out) (wKeep X.K c i ts D) := by
    rintro u s' ⟨a, B, sI, pins', σ', H', cls, d, rfl, J', nb, up, sky, na, os, ag, isC, wish⟩
    have J : Inv X pins σ' H' sI := J'.ofTry ok
    have sky2 : Sky B (X.env :: X.outer) a (Zc cls d) X.env.locals s'.heap := by rw [← hs]; exact sky
    show wpAny (model X.prog X.w) X.A (noteFrame (.ref a) X.env) _ _ _
    refine Sky.land Zc.steady frames hf sky2 fun h3 fl up3 => ?_
    have J3 : Inv X pins σ' H' { s' with heap := h3 } := J.landed nb fl.1 (up.trans up3) os ag
    obtain ⟨oe, vs, at3, z3, d3⟩ := fl.there
    have inFrames : a ∉ frs (X.env :: X.outer) := fun hm => by
      obtain ⟨_, o, e, q⟩ := fl.2.2.1.mem hm
      rw [at3] at e; cases e
      exact q _ d3
    have nL : a ≠ X.env.locals := fun z => inFrames (List.mem_filterMap.mpr ⟨X.env, List.mem_cons_self, by rw [hf, z]⟩)
    have nF : a ∉ X.fs := fun hm => by
      obtain ⟨e, he, q⟩ := List.mem_filterMap.mp hm
      exact inFrames (List.mem_filterMap.mpr ⟨e, List.mem_cons_of_mem _ he, q⟩)
    -- the exception is younger than the body's own state
    have young : sI.heap.get? a = none := by
      cases q : sI.heap.get? a with
      | none => rfl
      | some o =>
        have := nb a o q (by rw [hs]; exact inFrames)
        rw [fl.2.1] at this; cases this
    have new : X.s_0.heap.get? a = none := by
      cases q : X.s_0.heap.get? a with
      | none => rfl
      | some o =>
        obtain ⟨o', e⟩ := J.base.there a o q (by rw [hex]; simp)
        rw [young] at e; cases e
    have others : ∀ p ∈ X.pn ++ pins, p.1 ≠ a := fun p hp z => by
      have := (J.pin p hp).1
      rw [z, young] at this; cases this
    have S3 := J3.suite at3 d3 na nL nF
    refine wpAny_handleBy_cons (codeAny_handlers_test ?_) (by intro q; cases q)
    have asks := PySem.W.exm_one (M := model X.prog X.w) J3.kIn (fun A Q E s k q => wpAny_typeOf_ref (k _ _ at3) (by rw [z3.1]; exact q)) isC
    have named : ∀ {Q : Value → Shared → Prop} {E : Value → Shared → Prop}, Q c { s' with heap := h3 } → wpAny (model X.prog X.w) (X.A.mark (some (.ref a))) (eval (.Name x np) X.env) Q E { s' with heap := h3 } := fun {Q E} q => by
      obtain ⟨g1, g2, g3 | ⟨g3, g4, g5⟩⟩ := hc
      · exact ld_glob (X := X.suite a ((a, oe) :: (X.pn ++ pins))) S3 g1 g3 q g2
      · exact ld_blt (X := X.suite a ((a, oe) :: (X.pn ++ pins))) S3 g1 g3 g4 q g5 g2
    refine named (asks.here (codeAny_handlers_suite_as ?_))
    refine HandSPX.lands_againZ fl fun h4 fl4 up4 => ?_
    have J4 : Inv X pins σ' H' { s' with heap := h4 } := J.landed nb fl4.1 ((up.trans up3).trans up4) os ag
    obtain ⟨oe4, vs4, at4, z4, d4⟩ := fl4.there
    have S4 := J4.suite at4 d4 na nL nF
    refine store_ok (X := X.suite a ((a, oe4) :: (X.pn ++ pins))) (v := .ref a) S4 hN hi (.inl hln) rfl (fun s5 S5 => ?_) (.inr hln)
    refine wpAny_mono ((hsu a oe4 cls d (X.pn ++ pins) z4 ⟨_, d4⟩).run [] s5 _ H' _ S5 (wish a na)) (fun fl s6 hsp => ?_) (fun _ _ z => False.elim z)
    cases fl with
    | next =>
      obtain ⟨σ6, H6, S6, q6⟩ := hsp
      have K6 : Inv X ((a, oe4) :: pins) σ6 H6 s6 := ⟨ok, S6.os, S6.bare, S6.base, S6.loc, S6.cell, S6.free, S6.freeC, fun p hp => S6.pin p (by
        rw [List.append_nil]
        rcases List.mem_append.mp hp with q | q
        · exact List.mem_cons_of_mem _ (List.mem_append_left _ q)
        · rcases List.mem_cons.mp q with q | q
          · rw [q]; exact List.mem_cons_self
          · exact List.mem_cons_of_mem _ (List.mem_append_right _ q)), S6.hok, S6.len⟩
      exact gone_ok K6 hN hi hln fun s7 K7 => ⟨_, _, pin_told K7 z4 d4 new others, q6⟩
    | brk => obtain ⟨_, _, _, q⟩ := hsp; exact q.elim
    | cont => obtain ⟨_, _, _, q⟩ := hsp; exact q.elim
    | ret u => obtain ⟨_, _, _, _, _, q⟩ := hsp; exact q.elim
  refine wpAny_mono ((hb (wKeep X.K c i ts D) (X.pn ++ pins) out takes PassesOwn.looking).run [] s σ H D (I.toTry _) h) (fun f s1 hsp => ?_) fun e s1 he => he
  cases f with
  | next =>
    obtain ⟨σ', H', J', q⟩ := hsp
    exact wpAny_execs_nil ⟨σ', H', J'.ofTry ok, q⟩
  | brk =>
    obtain ⟨σ', H', J', q⟩ := hsp
    exact ⟨σ', H', J'.ofTry ok, q⟩
  | cont =>
    obtain ⟨σ', H', J', q⟩ := hsp
    exact ⟨σ', H', J'.ofTry ok, q⟩
  | ret u =>
    obtain ⟨v, σ', H', J', r, q⟩ := hsp
    exact ⟨v, σ', H', J'.ofTry ok, r, q⟩
end
end FD

set_option Elab.async false
set_option linter.all false
set_option maxRecDepth 100000
set_option maxHeartbeats 4000000
namespace FD
open PySem PySem.Spec PyProof.Rows L2
/-! ### try .. except C as n: error = n, over what is known -/
def errF (cls : Value) : Hp → V → Prop := fun H v => ∃ a, v = .ref a ∧ H a = some (ErrAt cls none a)
theorem errF_m (cls : Value) {G G' : Hp} {v : V} (e : Ex G G') (h : errF cls G v) : errF cls G' v := by
  obtain ⟨a, rfl, q⟩ := h
  exact ⟨a, rfl, e _ _ q⟩
theorem es_tryKeep {K : PySem.W.Frag} {env : En} {O : Outs} {c : Value} {i j : Nat} {tb : WX → TS} {R : Value → En → Prop} (hij : i ≠ j) (h : ∀ W, EvSX K W (tb W) env O R)
    (hc : ∀ cls e, R cls e → PySem.W.exmOne K cls c = some true ∧ i < e.length ∧ O.nx ((e.set j (some (.fro (errF cls) (errF_m cls)))).set i none)) :
    EvS K (fun D σ H => tb (wKeep K c i (fun _ _ _ => tAsg (tVar i) (gName j)) D) D σ H) env O := fun B σ G H D I a b cc d f => by
  refine h _ B σ G H D I a b cc d f fun cls σ' G' H' e' r x' I' => ?_
  obtain ⟨h1, hi, h2⟩ := hc cls e' r
  refine ⟨h1, fun p np => ?_⟩
  have hl : i < σ'.length := by rw [I'.len]; exact hi
  refine ⟨.ref p, by rw [List.getElem?_set_self hl], ?_⟩
  show D.nx (((σ'.set i (some (.ref p))).set j (some (.ref p))).set i none) (upd H' p (ErrAt cls none p))
  have e1 : ((σ'.set i (some (V.ref p))).set j (some (.ref p))).set i none = (σ'.set j (some (.ref p))).set i none := by
    rw [List.set_comm _ _ hij, List.set_set]
  rw [e1]
  have gp := I'.exH.fresh np
  have I2 : EnvOk K B (upd G' p (ErrAt cls none p)) (upd H' p (ErrAt cls none p)) σ' e' := I'.new np
  exact a _ _ _ _ h2 (x'.trans (Ex.new gp)) ((I2.setF (F := errF cls) (v := .ref p) (errF_m cls) ⟨p, rfl, upd_same⟩).setN i)
/-! ### isinstance of what was caught -/
def rIsErr (K : PySem.W.Frag) : List V → Hp → VK → Prop := fun xs H Q => ∃ (a D : Addr) (c : V) (cv : Value) (b : Bool), xs = [.ref a, c] ∧ H a = some (ErrAt (.ref D) none a) ∧ ExcC K D ∧ (∀ u, RelV c u → u = cv) ∧ PySem.W.kitOne K (.ref D) cv = some b ∧ Q (.bl b) H
theorem call_isErr {X : Cx} : CallR X (.builtin "isinstance") (rIsErr X.K) := by
  intro pins s σ H xs us Q I r h
  obtain ⟨a, D, c, cv, b, rfl, ha, C, hcv, e, q⟩ := h
  cases r with
  | cons rx rr =>
    cases rr with
    | cons rt rr =>
      cases rr
      cases rx
      have ec := hcv _ rt
      subst ec
      obtain ⟨⟨oe, vs, hget, hz, hv⟩, _⟩ := I.hok a _ ha
      have J : PySem.W.InstAt s.heap a oe D none := by
        obtain ⟨oc, od, oda, osl⟩ := oe
        obtain ⟨h1, h2⟩ := hz
        dsimp only at h1 h2 hv
        subst h1 h2 hv
        exact ⟨hget, rfl, rfl, trivial⟩
      exact PySem.W.kia_one (PySem.W.handS_kitx_exc C.hg C.hk C.hs C.hd C.ha C.hn C.ht C.hm) I.kIn J e (fun z => nomatch z) fun tk => ⟨.bl b, H, I.kept (t' := tk) fun _ _ z => z, rfl, q⟩
end FD

set_option Elab.async false
set_option linter.all false
set_option maxRecDepth 100000
set_option maxHeartbeats 4000000
namespace FD
open PySem PySem.Spec PyProof.Rows L2
/-! ### None, or what was caught -/
def FE : Option Addr → Hp → V → Prop
  | none => fun _ v => v = .non
  | some D => errF (.ref D)
theorem FE_m (o : Option Addr) {G G' : Hp} {v : V} (e : Ex G G') (h : FE o G v) : FE o G' v := by
  cases o with
  | none => exact h
  | some D => exact errF_m _ e h
abbrev slE (o : Option Addr) : Sl := .fro (FE o) (FE_m o)
def kitE (K : PySem.W.Frag) (o : Option Addr) (cv : Value) : Option Bool := match o with
  | none => PySem.W.kitOne K (.type "NoneType") cv
  | some D => PySem.W.kitOne K (.ref D) cv
def rIsC (K : PySem.W.Frag) : List V → Hp → VK → Prop := fun xs H Q => rIsi K xs H Q ∨ rIsErr K xs H Q
theorem call_isC {X : Cx} : CallR X (.builtin "isinstance") (rIsC X.K) := CallR.or call_isi call_isErr
section
variable {X : Cx} {K : PySem.W.Frag}
/-- isinstance(e, C), C a class of the program -/
theorem km_isiC (m : KMark K) (hK : X.K = K) {C : Addr} {nm : Str} {e : Expr} {te : TE} {p p2 pos : Pos} (b : Bi X.mg) (hm : X.mg nm = some (.ref C)) (hg : Gl X "isinstance") (hg2 : Gl X nm) (he : PE X e te)
    (h1 : starEach [e, .Name nm p2] X.env = (false, eval e X.env) :: starEach [.Name nm p2] X.env) (h2 : starEach [.Name nm p2] X.env = (false, eval (.Name nm p2) X.env) :: starEach [] X.env)
    (hpl : (backTo pos (starEach [.Name nm p2] X.env)).any (·.1) = false) (hd : (nm == ("__debug__" : Str)) = false) :
    PE X (.Call (.Name "isinstance" p) [e, .Name nm p2] [] pos) (tCB (rIsC K) (tCons te (tCons (tC (.ref C)) tNil))) := by
  subst hK
  exact pe_callB (x := "isinstance") call_isC hg b.isi (by decide +kernel) (pa_cons he (pa_cons (L2.pe_glob (v := .ref C) hg2 hm rfl hd) pa_nil h2) h1) (by decide) (by decide) h1 hpl
/-- isinstance(e, n), n a built-in class -/
theorem km_isiV (m : KMark K) (hK : X.K = K) {n : String} {nm : Str} {e : Expr} {te : TE} {p p2 pos : Pos} (b : Bi X.mg) (hm : X.mg nm = none) (hv : bootBuiltins nm = some (.type n)) (hg : Gl X "isinstance") (hg2 : Gl X nm) (he : PE X e te)
    (h1 : starEach [e, .Name nm p2] X.env = (false, eval e X.env) :: starEach [.Name nm p2] X.env) (h2 : starEach [.Name nm p2] X.env = (false, eval (.Name nm p2) X.env) :: starEach [] X.env)
    (hpl : (backTo pos (starEach [.Name nm p2] X.env)).any (·.1) = false) (hn : nm ≠ "__name__") (hd : (nm == ("__debug__" : Str)) = false) :
    PE X (.Call (.Name "isinstance" p) [e, .Name nm p2] [] pos) (tCB (rIsC K) (tCons te (tCons (tC (.ty n)) tNil))) := by
  subst hK
  exact pe_callB (x := "isinstance") call_isC hg b.isi (by decide +kernel) (pa_cons he (pa_cons (pe_bltn (v := .ty n) hg2 hm hv rfl hn hd) pa_nil h2) h1) (by decide) (by decide) h1 hpl
end
section
variable {K : PySem.W.Frag} {env : En} {P : En → PyData → Prop} {i : Nat} {o : Option Addr} {c : V} {cv : Value} {b : Bool}
theorem ev_isC (hi : env[i]? = some (some (slE o))) (hC : ∀ D, o = some D → ExcC K D) (hc : ClsV c cv) (hk : kitE K o cv = some b) (p : P env (.bool b)) : EvE K (tCB (rIsC K) (tCons (tVar i) (tCons (tC c) tNil))) env P := fun B σ G H Q I q => by
  obtain ⟨v, hv, hF⟩ := I.sl i _ hi
  refine ⟨v, hv, ?_⟩
  cases o with
  | none =>
    have hF' : v = .non := hF
    subst hF'
    exact .inl ⟨.non, c, .type "NoneType", cv, b, rfl, hc, (Dd.non (H := G)).tyx I.exH, hk, q _ G H env _ p (Ex.refl G) I (.bl _)⟩
  | some D =>
    obtain ⟨a, rfl, ha⟩ := (show errF (.ref D) G v from hF)
    exact .inr ⟨a, D, c, cv, b, rfl, I.exH _ _ ha, hC D rfl, fun u r => hc.eq r, hk, q _ G H env _ p (Ex.refl G) I (.bl _)⟩
end
/-- a def of one argument, None or what was caught -/
def spW (pre : Option Addr → Prop) (post : Option Addr → PyData → Prop) : Sp := fun vs H Q _ => ∃ (G : Hp) (v : V) (o : Option Addr), vs = [v] ∧ Ex G H ∧ FE o G v ∧ pre o ∧
  ∀ u G' H' d, post o d → Ex G G' → Ex G' H' → Ex H H' → (∀ q o, H q = some o → G q = none → G' q = none) → Dd G' u d → Q u H'
section
variable {P : Program} {w : World} {K : PySem.W.Frag} {mg : Str → Option Value} {base : Heap} {x qual : Str} {st : Stmt} {f : Addr} {fd : FuncData} {N : List Str} {p1 : Str} {k : Nat}
theorem fnW (F : L2.Fun K x qual st f fd) (S : FnScope N [p1] (defScope st)) (pre : Option Addr → Prop) (post : Option Addr → PyData → Prop)
    (hb : ∀ (cdv : Value) (A : Around) (outer : List PySem.Env) (s : Shared) (H : Hp), A.guards = some [] → Room k (A.deeper (envOfC qual (defScope st) s.heap.objs.size f cdv)) →
      ∃ t, PSs (cxOf CX0 P w K mg base N qual (defScope st) f cdv A outer s H E0).nox (defBody st) t ∧
        ∀ o, pre o → EvS K t (some (slE o) :: stD (N.length - 1) []) { nx := fun _ => False, rt := fun _ d => post o d }) : FnG P w K mg base (k + 1) f fd [p1] (spW pre post) := by
  refine fnG_of F S (fun vs H Q E ⟨G, v, o, e, _⟩ => by rw [e]; rfl) fun cdv A outer s H vs Q hg hr ⟨G, v, o, e, x, hF, hp, q⟩ => ?_
  subst e
  obtain ⟨t, ht, ev⟩ := hb cdv A outer s H hg hr
  refine ⟨t, ht, ev o hp _ _ G H _ (startT (Fa := FE) (x := o) (fun {G G'} {v} => FE_m o) x hF .nil) (fun _ _ _ _ z => z.elim) (fun v G' H' σ' env' d p x' I rd => ?_) (fun _ _ _ _ z => z.elim) (fun _ _ _ _ z => z.elim) (fun _ _ _ _ _ _ z => z.elim)⟩
  exact q v G' H' d p x' I.exH (fun a o h => I.keep a o h fun z => z) (fun a o h g => I.nog a o h g) rd
end
section
variable {K : PySem.W.Frag} {env : En} {P : En → PyData → Prop} {i : Nat} {o : Option Addr} {pre : Option Addr → Prop} {post : Option Addr → PyData → Prop}
theorem ev_callW (hi : env[i]? = some (some (slE o)) ∨ (o = none ∧ env[i]? = some (some (.dat .none)))) (hp : pre o) (h : ∀ d, post o d → P env d) : EvE K (tCB (callOf (spW pre post)) (tCons (tVar i) tNil)) env P := fun B σ G H Q I q => by
  have key : ∃ v, σ[i]? = some (some v) ∧ FE o G v := by
    rcases hi with hi | ⟨rfl, hi⟩
    · exact I.sl i _ hi
    · obtain ⟨v, hv, hd⟩ := I.sl i _ hi
      have hd' : Dd G v .none := hd
      cases hd'
      exact ⟨_, hv, rfl⟩
  obtain ⟨v, hv, hF⟩ := key
  exact ⟨v, hv, G, v, o, rfl, I.exH, hF, hp, fun u G2 H2 d pd x2 x3 x4 fr rd => q u G2 H2 env d (h d pd) x2 (I.went x2 x3 x4 fr) rd⟩
end
end FD

set_option Elab.async false
set_option linter.all false
set_option maxRecDepth 100000
set_option maxHeartbeats 4000000
namespace FD
open PySem PySem.Spec PyProof.Rows L2
/-! ### [F for x, y in zip(xs, ys) if p] -/
def zipD (p : PyData → PyData → Bool) (F : PyData → PyData → PyData) : List PyData → List PyData → List PyData
  | x :: xs, y :: ys => if p x y then F x y :: zipD p F xs ys else zipD p F xs ys
  | _, _ => []
theorem zipD_snoc {p : PyData → PyData → Bool} {F : PyData → PyData → PyData} {x y : PyData} : ∀ {xs ys : List PyData}, xs.length = ys.length → zipD p F (xs ++ [x]) (ys ++ [y]) = zipD p F xs ys ++ (if p x y then [F x y] else [])
  | [], [], _ => by
    show (if p x y then F x y :: [] else []) = [] ++ _
    rw [List.nil_append]
  | a :: xs, b :: ys, h => by
    have ih := zipD_snoc (p := p) (F := F) (x := x) (y := y) (xs := xs) (ys := ys) (by simpa using h)
    show (if p a b then F a b :: zipD p F (xs ++ [x]) (ys ++ [y]) else zipD p F (xs ++ [x]) (ys ++ [y])) = (if p a b then F a b :: zipD p F xs ys else zipD p F xs ys) ++ _
    rw [ih]
    by_cases z : p a b = true
    · rw [if_pos z, if_pos z]; rfl
    · rw [if_neg z, if_neg z]
theorem zipD_len {p : PyData → PyData → Bool} {F : PyData → PyData → PyData} : ∀ xs ys : List PyData, (zipD p F xs ys).length ≤ xs.length
  | [], _ => by simp [zipD]
  | _ :: _, [] => by simp [zipD]
  | a :: xs, b :: ys => by
    have := zipD_len (p := p) (F := F) xs ys
    show (if p a b then F a b :: zipD p F xs ys else zipD p F xs ys).length ≤ _
    split
    · rw [List.length_cons, List.length_cons]; omega
    · rw [List.length_cons]; omega
section
variable {K : PySem.W.Frag} {env : En} {ta : TA} {tt : TT} {te : TE} {i j : Nat}
theorem ev_zip {P : En → PyData → Prop} {xs ys : List PyData} (p : PyData → PyData → Bool) (F : PyData → PyData → PyData) (same : xs.length = ys.length) (h0 : EvAs K ta env fun e1 ds => e1 = env ∧ ds = [.list xs, .list ys]) (he0 : ∀ k s, env[k]? = some (some s) → k ∉ [i, j]) (he : wipeE env [i, j] = env)
    (hey : ∀ a b, wipeE ((env.set i (some (.dat a))).set j (some (.dat b))) [i, j] = env) (hl : xs.length ≤ 100000)
    (hel : ∀ (k : Nat) (a b : PyData), xs[k]? = some a → ys[k]? = some b → EvB K tt ((env.set i (some (.dat a))).set j (some (.dat b))) fun e b1 => e = (env.set i (some (.dat a))).set j (some (.dat b)) ∧ b1 = p a b ∧ (b1 = true → EvE K te e fun e2 y => e2 = e ∧ y = F a b))
    (q : P env (.list (zipD p F xs ys))) : EvE K (tLc (iZip K ta) (gTup K 2 (gCons (gName i) (gCons (gName j) gNil))) tt te [i, j]) env P := fun B σ G H Q I qq => by
  refine h0 B σ G H _ I fun vs G1 H1 e1 ds ⟨p1, p2⟩ x1 I1 rr => ?_
  subst p1 p2
  cases rr with
  | @cons va _ _ _ ra0 rr =>
  obtain ⟨vb, rfl, rb0⟩ := rr.one
  cases ra0 with
  | @lst ca as _ ha rax =>
  cases rb0 with
  | @lst cb bs _ hb rbx =>
  have la := rax.length
  have lb := rbx.length
  refine ⟨ca, cb, as, bs, rfl, SqL.of (I1.exH _ _ ha), SqL.of (I1.exH _ _ hb), fun D nD => ?_⟩
  have gD : G1 D = none := I1.exH.fresh nD
  obtain ⟨bD, sD⟩ := I1.fresh nD
  have mD : ¬ B.mu D := fun m => by obtain ⟨o, ho⟩ := I1.mus D m; rw [bD] at ho; cases ho
  have gB : B.G D = none := I1.exG.fresh gD
  have big : (100000 : Nat) < sizeLine := by decide
  have start : EnvOk K ⟨upd B.H D (.lst []), B.G, B.mu⟩ G1 (upd H1 D (.lst [])) (wipe σ [i, j]) e1 := by
    have := (I1.more (o := .lst []) nD).wiped [i, j]
    rw [he] at this
    exact EnvOk.hide this upd_same gD sD mD
  let St := fun (n : Nat) (H2 : Hp) => n ≤ xs.length ∧ ∃ (G2 : Hp) (av : List V), Ex G1 G2 ∧ DdAll G2 av (zipD p F (xs.take n) (ys.take n)) ∧ EnvOk K ⟨upd B.H D (.lst av), B.G, B.mu⟩ G2 H2 (wipe σ [i, j]) e1
  refine ⟨fun n m H2 => m = xs.length - n ∧ St n H2, ⟨_, rfl, Nat.zero_le _, G1, [], Ex.refl _, .nil, start⟩, ?_⟩
  rintro n m H2 ⟨rfl, hn, G2, av, x2, ra, I2⟩
  have qa : SqL K H2 ca as := SqL.of (I2.exH _ _ (x2 _ _ ha))
  have qb : SqL K H2 cb bs := SqL.of (I2.exH _ _ (x2 _ _ hb))
  by_cases hlt : n < xs.length
  · have hlt2 : n < ys.length := by omega
    have ga : as[n]? = some (as[n]'(by omega)) := List.getElem?_eq_getElem _
    have gb : bs[n]? = some (bs[n]'(by omega)) := List.getElem?_eq_getElem _
    refine .inr ⟨⟨as, bs, _, _, qa, qb, ga, gb⟩, St (n + 1), fun H3 s3 => ⟨xs.length - (n + 1), by omega, rfl, s3⟩, fun x H3 y => ?_⟩
    obtain ⟨T, v1, v2, rfl, hT, rfl, f1, f2⟩ := y
    have g1 : as[n]? = some v1 := f1 as qa
    have g2 : bs[n]? = some v2 := f2 bs qb
    have r1 : Dd G2 v1 xs[n] := by
      obtain ⟨v, hv, r⟩ := rax.get (List.getElem?_eq_getElem hlt)
      rw [g1] at hv
      cases hv
      exact r.ex x2
    have r2 : Dd G2 v2 ys[n] := by
      obtain ⟨v, hv, r⟩ := rbx.get (List.getElem?_eq_getElem hlt2)
      rw [g2] at hv
      cases hv
      exact r.ex x2
    have few : av.length < sizeLine := by
      rw [ra.length]
      have := zipD_len (p := p) (F := F) (xs.take n) (ys.take n)
      rw [List.length_take] at this
      omega
    have tk : zipD p F (xs.take (n + 1)) (ys.take (n + 1)) = zipD p F (xs.take n) (ys.take n) ++ (if p xs[n] ys[n] then [F xs[n] ys[n]] else []) := by
      rw [← List.take_append_getElem hlt, ← List.take_append_getElem hlt2]
      exact zipD_snoc (by rw [List.length_take, List.length_take]; omega)
    have gT : G2 T = none := I2.exH.fresh hT
    have x3 : Ex G2 (upd G2 T (.tup [v1, v2])) := Ex.new gT
    have I3 := ((I2.new (o := .tup [v1, v2]) hT).setD (i := i) (r1.ex x3)).setD (i := j) (r2.ex x3)
    have bk : wipe (((wipe σ [i, j]).set i (some v1)).set j (some v2)) [i, j] = wipe σ [i, j] := by rw [wipe_set (by simp), wipe_set (by simp), wipe_sub fun _ z => z]
    refine ⟨T, _, rfl, SqT.of upd_same, rfl, v1, [v2], rfl, v2, [], rfl, rfl, bk, ?_⟩
    refine hel n _ _ (List.getElem?_eq_getElem hlt) (List.getElem?_eq_getElem hlt2) _ _ _ _ _ I3 fun bb G4 H4 e4 ⟨s1, s2, s3⟩ x4 I4 => ?_
    subst s1
    cases bb with
    | true =>
      refine iteT (s3 rfl _ _ G4 H4 _ I4 fun yv G5 H5 e5 yd ⟨p5, p6⟩ x5 I5 r5 => ?_)
      subst p5 p6
      have hD5 : H5 D = some (.lst av) := I5.keep D _ upd_same mD
      refine ⟨av, hD5, few, hlt, G5, av ++ [yv], ((x2.trans x3).trans x4).trans x5, ?_, ?_⟩
      · rw [tk, ← s2, if_pos rfl]
        exact (ra.ex ((x3.trans x4).trans x5)).append (.cons r5 .nil)
      · have := (I5.rehide (o' := .lst (av ++ [yv])) bD mD gB).wiped [i, j]
        rw [bk, hey] at this
        exact this
    | false =>
      refine iteF ⟨hlt, G4, av, (x2.trans x3).trans x4, ?_, ?_⟩
      · rw [tk, ← s2, if_neg Bool.false_ne_true, List.append_nil]
        exact ra.ex (x3.trans x4)
      · have := I4.wiped [i, j]
        rw [bk, hey] at this
        exact this
  · have e : n = xs.length := by omega
    subst e
    rw [List.take_length, same, List.take_length] at ra
    obtain ⟨I6, hD5, gD5, sD5⟩ := I2.unhide bD mD gB
    have I7 := (I6.unwiped he0).freeze hD5 gD5 sD5 bD
    exact .inl ⟨⟨as, bs, qa, qb, Or.inl (by omega)⟩, qq _ _ _ _ _ q ((x1.trans x2).trans (Ex.new gD5)) I7 (.lst upd_same (ra.ex (Ex.new gD5)))⟩
end
theorem km_zip {X : Cx} {K : PySem.W.Frag} (m : KMark K) (hK : X.K = K) {e e2 : Expr} {ta : TA} {p pos tpos : Pos} {elts : List Expr} {kk : Nat} (hg : Gl X "zip") (hm : X.mg "zip" = none) (ha : PA X [e, e2] ta)
    (hs : starEach [e, e2] X.env = (false, eval e X.env) :: starEach [e2] X.env) (hpl : (backTo pos (starEach [e2] X.env)).any (·.1) = false) :
    PI X (.Tuple elts kk tpos) (.Call (.Name "zip" p) [e, e2] [] pos) (iZip K ta) := by
  subst hK
  exact pi_zip hg hm ha hs hpl
end FD

set_option Elab.async false
set_option linter.all false
set_option maxRecDepth 100000
set_option maxHeartbeats 4000000
namespace FD
open PySem PySem.Spec PyProof.Rows L2
/-! ### raise C('..'), C a class of the program below ValueError -/
abbrev mroVE : List Value := [.type "ValueError", .type "Exception", .type "BaseException", .type "object"]
structure ErrC (K : PySem.W.Frag) (mg : Str → Option Value) (nm : Str) (C : Addr) : Prop where
  g : mg nm = some (.ref C)
  x : PySem.W.excIn K C mroVE "ValueError.__new__" = true
  k : PySem.W.keepIn K (.ref C) = true
  s : PySem.W.subIn K (.ref C) (.type "BaseException") = some true
  t : PySem.W.typeIn K (.ref C) = some (.type "type")
section
variable {X : Cx} {K : PySem.W.Frag} {mg : Str → Option Value} {W : WX} {nm m : Str} {C : Addr} {j : Nat} {p p2 pos pos2 : Pos}
theorem ps_raiseC (hc : X.calm = true) (hK : X.K = K) (hm : X.mg = mg) (e : ErrC K mg nm C) (tk : Takes X W) (hg : Gl X nm) (hdb : (nm == ("__debug__" : Str)) = false) :
    PS X (.Raise (some (.Call (.Name nm p) [.Constant (.str m) j p2] [] pos)) none pos2) (tRaise W (.ref C)) := by
  subst hK hm
  exact ps_raise hc tk (pmk_own PySem.F.excBase_ValueError e.x e.g e.k (raises_own e.s e.t) hg hdb)
end
theorem pe_clX {P : Program} {w : World} {K : PySem.W.Frag} {mg : Str → Option Value} {base : Heap} {k m : Nat} {ps : List Str} {sp : Sp} {x : Str} {p pos : Pos} {X : Cx} {W : WX} {e : Expr} {es : List Expr} {t : TA} (tk : Takes X W) (C : CalX P w K mg base k x ps sp) (h1 : X.prog = P) (h2 : X.w = w) (h3 : X.K = K) (h4 : X.mg = mg) (h5 : X.base = base)
    (hg : X.A.guards = some []) (hr : Room m X.A) (hk : k ≤ m) (hx : Gl X x) (ha : PA X (e :: es) t) (hdb : (x == ("__debug__" : Str)) = false)
    (he : starEach (e :: es) X.env = (false, eval e X.env) :: starEach es X.env) (hpl : (backTo pos (starEach es X.env)).any (·.1) = false) :
    PE X (.Call (.Name x p) (e :: es) [] pos) (tCallX sp W t) := by
  subst h1 h2 h3 h4 h5
  exact pe_calX tk C hg hr hk hx ha hdb he hpl
end FD

set_option Elab.async false
set_option linter.all false
set_option maxRecDepth 100000
set_option maxHeartbeats 4000000
namespace FD
open PySem PySem.Spec PyProof.Rows L2
/-! ### a dict whose keys are nested tuples -/
abbrev NEnt := NestedKey × Addr × Value
/-- at a lies a dict with these entries -/
def DN (P : Program) (w : World) (a : Addr) (es : List NEnt) : HO := .ext fun h => (a == sysModules) = false ∧ ∃ (o : Obj) (ep : Nat), h.get? a = some o ∧ o.ExactDict ∧ o.data = .dict (es.map (entryOfKey (nestedKind P w))).toArray ep
def AtN (P : Program) (w : World) (a : Addr) (es : List NEnt) (o : HO) : Prop := o = DN P w a es ∨ (es = [] ∧ o = .dK [])
structure KeyN (H : Hp) (k : NestedKey) (b : Addr) : Prop where
  d : Dd H (.ref b) k.data
  le : k.depth ≤ 8
structure EntsN (H : Hp) (es : List NEnt) : Prop where
  few : es.length < 100000
  nd : (es.map (·.1)).Nodup
  key : ∀ e ∈ es, KeyN H e.1 e.2.1
section
variable {X : Cx} {pins : List (Addr × Obj)} {σ : L2.St} {H : Hp} {s : Shared}
mutual
theorem nested_is (I : Inv X pins σ H s) : ∀ (k : NestedKey) (v : V) (u : Value), Dd H v k.data → RelV v u → NestedIs s.heap k u
  | .none, _, _, h, r => by
    rw [NestedKey.data] at h
    cases h
    cases r
    exact .none
  | .num i, _, _, h, r => by
    rw [NestedKey.data] at h
    cases h
    obtain ⟨t, rfl⟩ := r
    exact .int i t
  | .text x, _, _, h, r => by
    rw [NestedKey.data] at h
    cases h
    obtain ⟨t, rfl⟩ := r
    exact .text x t
  | .tup ks, _, _, h, r => by
    rw [NestedKey.data] at h
    cases h with
    | tup hs ha =>
      cases r
      obtain ⟨_, its, rv, o, ho, hc, n, hd⟩ := (show ObjOk X.prog X.w H s.heap _ (.tup _) from I.hok _ _ hs)
      exact .tup ho hc hd (by rw [List.toList_toArray]; exact nested_all I ks _ its ha rv)
theorem nested_all (I : Inv X pins σ H s) : ∀ (ks : List NestedKey) (vs : List V) (us : List Value), DdAll H vs (NestedKey.datas ks) → Vals vs us → NestedAll s.heap ks us
  | [], _, _, h, r => by
    rw [NestedKey.datas] at h
    cases h
    cases r
    exact .nil
  | k :: ks, _, _, h, r => by
    rw [NestedKey.datas] at h
    cases h with
    | cons h1 h2 =>
      cases r with
      | cons r1 r2 => exact .cons (nested_is I k _ _ h1 r1) (nested_all I ks _ _ h2 r2)
end
theorem key_is (I : Inv X pins σ H s) {k : NestedKey} {b : Addr} (h : KeyN H k b) : (nestedKind X.prog X.w).is s.heap k b := ⟨nested_is I k (.ref b) (.ref b) h.d rfl, h.le⟩
theorem dict_n (I : Inv X pins σ H s) {a : Addr} {es : List NEnt} {o : HO} (e : H a = some o) (at_ : AtN X.prog X.w a es o) (ok : EntsN H es) : (a == sysModules) = false ∧ s.heap.DictOfH (nestedKind X.prog X.w) a es := by
  rcases at_ with rfl | ⟨rfl, rfl⟩
  · obtain ⟨⟨z, o, ep, h1, h2, h3⟩, _⟩ := (show ObjOk X.prog X.w H s.heap a (.ext _) from I.hok a _ e)
    exact ⟨z, o, _, ep, h1, h2, h3, List.toList_toArray .., fun x hx => key_is I (ok.key x hx), ok.nd⟩
  · obtain ⟨_, z, vs, kv, o, arr, ep, h1, h2, h3, h4⟩ := (show ObjOk X.prog X.w H s.heap a (.dK []) from I.hok a _ e)
    cases kv
    have e0 : arr.toList = [] := by
      have := h4.2.1
      generalize arr.toList = l at this
      cases this
      rfl
    exact ⟨z, o, arr, ep, h1, h2, h3, e0, fun x hx => (by cases hx), List.nodup_nil⟩
end

structure NAt (P : Program) (w : World) (H : Hp) (x y : V) (a b : Addr) (es : List NEnt) (k : NestedKey) : Prop where
  ex : x = .ref a
  ey : y = .ref b
  o : ∃ o, H a = some o ∧ AtN P w a es o
  es : EntsN H es
  k : KeyN H k b
def tNotN (P : Program) (w : World) (ty td : TE) : TE := fun σ H Q => ty σ H fun y H1 => td σ H1 fun x H2 => ∃ a b es k, NAt P w H2 x y a b es k ∧ Q (.bl (!(atKey es k).isSome)) H2
def tGetN (P : Program) (w : World) (td ty : TE) : TE := fun σ H Q => td σ H fun x H1 => ty σ H1 fun y H2 => ∃ a b es k p v, NAt P w H2 x y a b es k ∧ atKey es k = some p ∧ RelV v p.2 ∧ Q v H2
def sPutN (P : Program) (w : World) (td ty tv : TE) : TS := fun D σ H => tv σ H fun v H1 => td σ H1 fun x H2 => ty σ H2 fun y H3 => ∃ a b es k, NAt P w H3 x y a b es k ∧ ∀ r, RelV v r → D.nx σ (upd H3 a (DN P w a (storedH es k b r)))
def rLenN (P : Program) (w : World) : List V → Hp → VK → Prop := fun xs H Q => ∃ a es o, xs = [.ref a] ∧ H a = some o ∧ AtN P w a es o ∧ EntsN H es ∧ Q (.int es.length) H
section
variable {X : Cx} {P : Program} {w : World} {o i value : Expr} {pos pos' : Pos} {td ty tv : TE} {kk : Nat}
theorem room_n (hr : Room kk X.A) : (nestedKind X.prog X.w).room X.A.in1 := by
  have := FD.Room.u64 hr
  show X.A.units + 1 + 8 < cLine
  omega
theorem pc_notN (hr : Room kk X.A) (hP : X.prog = P) (hW : X.w = w) (hi : PE X i ty) (ho : PE X o td) : PC X .NotIn i o (tNotN P w ty td) := by
  subst hP hW
  refine ⟨fun pins s σ H Q I h => ?_⟩
  refine thn (hi.run pins s σ H _ I h) fun iv s1 ⟨y, H1, I1, ry, q1⟩ => thn (ho.run pins s1 σ H1 _ I1 q1) fun u s2 ⟨x, H2, I2, rx, a, b, es, k, n, q2⟩ => ?_
  obtain ⟨rfl, rfl, ⟨ob, eo, at_⟩, ok, key⟩ := n
  obtain rfl : u = Value.ref a := rx
  obtain rfl : iv = Value.ref b := ry
  obtain ⟨z, dd⟩ := dict_n I2 eo at_ ok
  exact wpAny_notIn_heap (room_n hr) (key_is I2 key) z dd ⟨.bl _, H2, I2.tok _, rfl, q2⟩
theorem pe_getN (hr : Room kk X.A) (hP : X.prog = P) (hW : X.w = w) (ho : PE X o td) (hi : PE X i ty) (hs : NoSl i) : PE X (.Subscript o i pos) (tGetN P w td ty) := by
  subst hP hW
  refine ⟨fun pins s σ H Q I h => ?_⟩
  refine subD_of PySem.F.slot_dict_getitem.lookup hs (thn (ho.run pins s σ H _ I h) fun u s1 ⟨x, H1, I1, rx, q1⟩ => thn (hi.run pins s1 σ H1 _ I1 q1) fun iv s2 ⟨y, H2, I2, ry, a, b, es, k, p, v, n, hp, rv, q2⟩ => ?_)
  obtain ⟨rfl, rfl, ⟨ob, eo, at_⟩, ok, key⟩ := n
  obtain rfl : u = Value.ref a := rx
  obtain rfl : iv = Value.ref b := ry
  obtain ⟨z, dd⟩ := dict_n I2 eo at_ ok
  exact ⟨dd.typeIs, wpAny_getItem_heap (room_n hr) (key_is I2 key) dd hp ⟨v, H2, I2.tok _, rv, q2⟩⟩
theorem dn_ok {H : Hp} {h : Heap} {a : Addr} {es : List NEnt} (z : (a == sysModules) = false) (dd : h.DictOfH (nestedKind P w) a es) : ObjOk P w H h a (DN P w a es) := by
  obtain ⟨o, arr, ep, h1, h2, h3, h4, _⟩ := dd
  refine ⟨⟨z, o, ep, h1, h2, ?_⟩, ⟨o, h1⟩, fun g1 g2 ⟨z, o, ep, k1, k2, k3⟩ keep => ⟨z, o, ep, keep o k1, k2, k3⟩⟩
  rw [h3, ← h4]
theorem ps_putN (hr : Room kk X.A) (hP : X.prog = P) (hW : X.w = w) (ho : PE X o td) (hi : PE X i ty) (hv : PE X value tv) (hs : swapsWith value (some (.Subscript o i pos')) pos.line X.env = pure false) :
    PS X (.Assign [.Subscript o i pos'] value pos) (sPutN P w td ty tv) := by
  subst hP hW
  refine ⟨fun pins s σ H D I h => ?_⟩
  refine wpAny_Assign_Subscript (thn (hv.run pins s σ H _ I h) fun r s1 ⟨v, H1, I1, rv, q1⟩ => thn (ho.run pins s1 σ H1 _ I1 q1) fun u s2 ⟨x, H2, I2, rx, q2⟩ => thn (hi.run pins s2 σ H2 _ I2 q2) fun iv s3 ⟨y, H3, I3, ry, a, b, es, k, n, q3⟩ => ?_) hs
  obtain ⟨rfl, rfl, ⟨ob, eo, at_⟩, ok, key⟩ := n
  obtain rfl : u = Value.ref a := rx
  obtain rfl : iv = Value.ref b := ry
  obtain ⟨z, dd⟩ := dict_n I3 eo at_ ok
  have few := ok.few
  refine wpAny_setItem_heap (hsz := Nat.le_trans (Nat.le_of_lt few) (by decide)) (room_n hr) (key_is I3 key) dd fun h' dd' hs' => ⟨σ, _, ?_, q3 r rv⟩
  have mu : Mut (H3 a) := by
    rw [eo]
    rcases at_ with rfl | ⟨_, rfl⟩
    · exact True.intro
    · exact True.intro
  exact d_write I3 mu hs' (let ⟨q, _, _, hq, _⟩ := dd'; ⟨q, hq⟩) (dn_ok z dd')
theorem call_lenN (hP : X.prog = P) (hW : X.w = w) : CallR X (.builtin "len") (rLenN P w) := by
  subst hP hW
  intro pins s σ H xs us Q I r h
  obtain ⟨a, es, ob, rfl, eo, at_, ok, q⟩ := h
  obtain ⟨u, rfl, rx⟩ := vals1 r
  cases rx
  obtain ⟨z, dd⟩ := dict_n I eo at_ ok
  have few := ok.few
  exact call_len_dictH z dd (by omega) ⟨.int es.length, H, I.tok _, ⟨_, rfl⟩, q⟩
end
/-! ### told as data -/
def lkN (k : NestedKey) (ds : List (NestedKey × PyData)) : Option PyData := (ds.find? fun x => decide (x.1 = k)).map (·.2)
def putN (k : NestedKey) (d : PyData) (ds : List (NestedKey × PyData)) : List (NestedKey × PyData) := if (lkN k ds).isSome then ds.map fun x => if x.1 = k then (x.1, d) else x else ds ++ [(k, d)]
inductive EntsG (G : Hp) : List NEnt → List (NestedKey × PyData) → Prop
  | nil : EntsG G [] []
  | cons {k : NestedKey} {b : Addr} {u : Value} {v : V} {d : PyData} {es : List NEnt} {ds : List (NestedKey × PyData)} : KeyN G k b → RelV v u → Dd G v d → EntsG G es ds → EntsG G ((k, b, u) :: es) ((k, d) :: ds)
theorem KeyN.ex {G G' : Hp} {k : NestedKey} {b : Addr} (h : KeyN G k b) (e : Ex G G') : KeyN G' k b := ⟨h.d.ex e, h.le⟩
theorem EntsG.ex {G G' : Hp} (e : Ex G G') : ∀ {es : List NEnt} {ds : List (NestedKey × PyData)}, EntsG G es ds → EntsG G' es ds
  | _, _, .nil => .nil
  | _, _, .cons a b c r => .cons (a.ex e) b (c.ex e) (r.ex e)
theorem EntsG.keys {G : Hp} : ∀ {es : List NEnt} {ds : List (NestedKey × PyData)}, EntsG G es ds → es.map (·.1) = ds.map (·.1)
  | _, _, .nil => rfl
  | _, _, .cons _ _ _ r => by rw [List.map_cons, List.map_cons, r.keys]
theorem EntsG.len {G : Hp} {es : List NEnt} {ds : List (NestedKey × PyData)} (h : EntsG G es ds) : es.length = ds.length := by
  have := congrArg List.length h.keys
  rwa [List.length_map, List.length_map] at this
theorem EntsG.key {G : Hp} : ∀ {es : List NEnt} {ds : List (NestedKey × PyData)}, EntsG G es ds → ∀ e ∈ es, KeyN G e.1 e.2.1
  | _, _, .nil => fun _ h => nomatch h
  | _, _, .cons a _ _ r => fun e h => by
    rcases List.mem_cons.mp h with rfl | h
    · exact a
    · exact r.key e h
theorem EntsG.get {G : Hp} (k : NestedKey) : ∀ {es : List NEnt} {ds : List (NestedKey × PyData)}, EntsG G es ds → (atKey es k = none ∧ lkN k ds = none) ∨ ∃ p v d, atKey es k = some p ∧ lkN k ds = some d ∧ RelV v p.2 ∧ Dd G v d
  | _, _, .nil => .inl ⟨rfl, rfl⟩
  | _, _, .cons (k := j) (b := b) (u := u) (v := v) (d := d) (es := es) (ds := ds) _ rv rd r => by
    unfold atKey lkN
    rw [List.find?_cons, List.find?_cons]
    by_cases z : j = k
    · subst z
      refine .inr ⟨(b, u), v, d, ?_, ?_, rv, rd⟩
      · simp
      · simp
    · have e : decide (j = k) = false := decide_eq_false z
      show (Option.map _ (match decide (j = k) with | true => some _ | false => _) = none ∧ Option.map _ (match decide (j = k) with | true => some _ | false => _) = none) ∨ _
      rcases r.get k with ⟨h1, h2⟩ | ⟨p, v, d, h1, h2, h3, h4⟩
      · refine .inl ⟨?_, ?_⟩
        · rw [e]; exact h1
        · rw [e]; exact h2
      · refine .inr ⟨p, v, d, ?_, ?_, h3, h4⟩
        · show Option.map _ (match decide (j = k) with | true => some _ | false => _) = _
          rw [e]; exact h1
        · show Option.map _ (match decide (j = k) with | true => some _ | false => _) = _
          rw [e]; exact h2
theorem EntsG.snoc {G : Hp} {k : NestedKey} {b : Addr} {u : Value} {v : V} {d : PyData} (hk : KeyN G k b) (rv : RelV v u) (rd : Dd G v d) : ∀ {es : List NEnt} {ds : List (NestedKey × PyData)}, EntsG G es ds → EntsG G (es ++ [(k, b, u)]) (ds ++ [(k, d)])
  | _, _, .nil => .cons hk rv rd .nil
  | _, _, .cons a b c r => .cons a b c (r.snoc hk rv rd)
theorem EntsG.repl {G : Hp} {k : NestedKey} {u : Value} {v : V} {d : PyData} (rv : RelV v u) (rd : Dd G v d) : ∀ {es : List NEnt} {ds : List (NestedKey × PyData)}, EntsG G es ds → EntsG G (es.map (putAt k u)) (ds.map fun x => if x.1 = k then (x.1, d) else x)
  | _, _, .nil => .nil
  | _, _, .cons (k := j) a b c r => by
    rw [List.map_cons, List.map_cons]
    unfold putAt
    by_cases z : j = k
    · rw [if_pos z, if_pos z]
      exact .cons a rv rd (r.repl rv rd)
    · rw [if_neg z, if_neg z]
      exact .cons a b c (r.repl rv rd)
theorem EntsG.put {G : Hp} {k : NestedKey} {b : Addr} {u : Value} {v : V} {d : PyData} {es : List NEnt} {ds : List (NestedKey × PyData)} (h : EntsG G es ds) (hk : KeyN G k b) (rv : RelV v u) (rd : Dd G v d) : EntsG G (storedH es k b u) (putN k d ds) := by
  unfold storedH putN
  rcases h.get k with ⟨h1, h2⟩ | ⟨p, v', d', h1, h2, _⟩
  · rw [h1, h2]
    exact h.snoc hk rv rd
  · rw [h1, h2]
    exact h.repl rv rd
theorem lkN_none {k : NestedKey} {ds : List (NestedKey × PyData)} (h : lkN k ds = none) : k ∉ ds.map (·.1) := fun m => by
  obtain ⟨x, hx, rfl⟩ := List.mem_map.mp m
  have h' := Option.map_eq_none_iff.mp h
  have := List.find?_eq_none.mp h' x hx
  simp at this
theorem putN_nodup {k : NestedKey} {d : PyData} {ds : List (NestedKey × PyData)} (h : (ds.map (·.1)).Nodup) : ((putN k d ds).map (·.1)).Nodup := by
  unfold putN
  cases q : lkN k ds with
  | some f =>
    rw [if_pos (show (some f).isSome = true from rfl), List.map_map]
    have e : ((fun x : NestedKey × PyData => x.1) ∘ fun x : NestedKey × PyData => if x.1 = k then (x.1, d) else x) = fun x => x.1 := by
      funext x
      show (if x.1 = k then (x.1, d) else x).1 = x.1
      split <;> rfl
    rw [e]; exact h
  | none =>
    rw [if_neg (by simp), List.map_append]
    refine List.nodup_append.mpr ⟨h, by simp, fun a ha b hb => ?_⟩
    obtain rfl := List.mem_singleton.mp hb
    exact fun z => lkN_none q (z ▸ ha)
theorem putN_len {k : NestedKey} {d : PyData} {ds : List (NestedKey × PyData)} : (putN k d ds).length ≤ ds.length + 1 := by
  unfold putN
  split
  · rw [List.length_map]; omega
  · rw [List.length_append, List.length_singleton]; exact Nat.le_refl _
def slN (P : Program) (w : World) (p : Addr) (ds : List (NestedKey × PyData)) : Sl := .obj p (fun G o => ∃ es, AtN P w p es o ∧ (ds.map (fun x : NestedKey × PyData => x.1)).Nodup ∧ EntsG G es ds) (fun e ⟨es, a, n, h⟩ => ⟨es, a, n, h.ex e⟩)
theorem ents_ok {G H : Hp} {es : List NEnt} {ds : List (NestedKey × PyData)} (h : EntsG G es ds) (nd : (ds.map (·.1)).Nodup) (few : ds.length < 100000) (e : Ex G H) : EntsN H es := ⟨by rw [h.len]; exact few, by rw [h.keys]; exact nd, fun x hx => (h.key x hx).ex e⟩
section
variable {P : Program} {w : World} {K : PySem.W.Frag} {env : En} {O : Outs} {i j l : Nat} {te ta ty tv : TE} {Pp : En → PyData → Prop}
theorem ev_notN (h : EvE K ty env fun e d => ∃ p ds ks, e[i]? = some (some (slN P w p ds)) ∧ ds.length < 100000 ∧ d = .tuple (NestedKey.datas ks) ∧ (NestedKey.tup ks).depth ≤ 8 ∧ Pp e (.bool (!(lkN (.tup ks) ds).isSome))) :
    EvE K (tNotN P w ty (tVar i)) env Pp := fun B σ G H Q I q =>
  h B σ G H _ I fun y G1 H1 e1 d1 p1 x1 I1 r1 => by
    obtain ⟨p, ds, ks, hi, few, rfl, le, pp⟩ := p1
    obtain ⟨v, hv, rfl, g, o, ho, es, at_, nd, en⟩ := I1.sl i _ hi
    obtain ⟨b, rfl⟩ : ∃ b, y = .ref b := by cases r1; exact ⟨_, rfl⟩
    refine ⟨.ref p, hv, p, b, es, .tup ks, ⟨rfl, rfl, ⟨o, ho, at_⟩, ents_ok en nd few I1.exH, ⟨by rw [NestedKey.data]; exact r1.ex I1.exH, le⟩⟩, ?_⟩
    have e : (atKey es (.tup ks)).isSome = (lkN (.tup ks) ds).isSome := by
      rcases en.get (.tup ks) with ⟨a, b⟩ | ⟨_, _, _, a, b, _⟩
      · rw [a, b]; rfl
      · rw [a, b]; rfl
    rw [e]
    exact q _ G1 H1 e1 _ pp x1 I1 (.bl _)
theorem ev_getN {p : Addr} {ds : List (NestedKey × PyData)} (h0 : env[i]? = some (some (slN P w p ds))) (few : ds.length < 100000)
    (h : EvE K ty env fun e2 d => ∃ ks f, d = .tuple (NestedKey.datas ks) ∧ (NestedKey.tup ks).depth ≤ 8 ∧ e2[i]? = some (some (slN P w p ds)) ∧ lkN (.tup ks) ds = some f ∧ Pp e2 f) : EvE K (tGetN P w (tVar i) ty) env Pp := fun B σ G H Q I q => by
  obtain ⟨v, hv, rfl, _⟩ := I.sl i _ h0
  refine ⟨_, hv, ?_⟩
  refine h B σ G H _ I fun y G1 H1 e1 d1 p1 x1 I1 r1 => ?_
  obtain ⟨ks, f, rfl, le, hi, hf, pp⟩ := p1
  obtain ⟨v, hv, _, g, o, ho, es, at_, nd, en⟩ := I1.sl i _ hi
  obtain ⟨b, rfl⟩ : ∃ b, y = .ref b := by cases r1; exact ⟨_, rfl⟩
  rcases en.get (.tup ks) with ⟨a, c⟩ | ⟨pr, v', d', a, c, rv, rd⟩
  · rw [hf] at c; cases c
  · rw [hf] at c; cases c
    exact ⟨p, b, es, .tup ks, pr, v', ⟨rfl, rfl, ⟨o, ho, at_⟩, ents_ok en nd few I1.exH, ⟨by rw [NestedKey.data]; exact r1.ex I1.exH, le⟩⟩, a, rv, q v' G1 H1 e1 _ pp x1 I1 rd⟩
theorem es_putN {p : Addr} (h : EvE K tv env fun e1 d => ∃ ds0, e1[i]? = some (some (slN P w p ds0)) ∧ EvE K ty e1 fun e2 kd => ∃ ds ks, e2[i]? = some (some (slN P w p ds)) ∧ ds.length < 99999 ∧ kd = .tuple (NestedKey.datas ks) ∧ (NestedKey.tup ks).depth ≤ 8 ∧
    O.nx (e2.set i (some (slN P w p (putN (.tup ks) d ds))))) : EvS K (sPutN P w (tVar i) ty tv) env O := fun B σ G H D I a b c d f => by
  refine h B σ G H _ I fun v G1 H1 e1 d1 p1 x1 I1 r1 => ?_
  obtain ⟨ds0, hi0, p1⟩ := p1
  obtain ⟨v0, hv0, rfl, _⟩ := I1.sl i _ hi0
  refine ⟨_, hv0, ?_⟩
  refine p1 B σ G1 H1 _ I1 fun y G2 H2 e2 kd p2 x2 I2 r2 => ?_
  obtain ⟨ds, ks, hi, few, rfl, le, hn⟩ := p2
  obtain ⟨v1, hv1, _, g, o, ho, es, at_, nd, en⟩ := I2.sl i _ hi
  obtain ⟨bb, rfl⟩ : ∃ b, y = .ref b := by cases r2; exact ⟨_, rfl⟩
  refine ⟨p, bb, es, .tup ks, ⟨rfl, rfl, ⟨o, ho, at_⟩, ents_ok en nd (by omega) I2.exH, ⟨by rw [NestedKey.data]; exact r2.ex I2.exH, le⟩⟩, fun r rv => ?_⟩
  exact a σ G2 _ _ hn (x1.trans x2) (I2.put hi rfl rfl rfl ⟨rfl, g, _, upd_same, _, .inl rfl, putN_nodup nd, en.put ⟨by rw [NestedKey.data]; exact r2, le⟩ rv (r1.ex x2)⟩)
theorem ev_lenN {p : Addr} {ds : List (NestedKey × PyData)} (h0 : env[i]? = some (some (slN P w p ds))) (few : ds.length < 100000) (q : Pp env (.int ds.length)) : EvE K (tCB (rLenN P w) (tCons (tVar i) tNil)) env Pp := fun B σ G H Q I k => by
  obtain ⟨v, hv, rfl, g, o, ho, es, at_, nd, en⟩ := I.sl i _ h0
  refine ⟨_, hv, p, es, o, rfl, ho, at_, ents_ok en nd few I.exH, ?_⟩
  rw [en.len]
  exact k _ G H env _ q (Ex.refl G) I (.int _)
/-- x, y, z = {}, [], [] -/
theorem es_tup3N {n3 : Nat} (hn : n3 = 3) (h : ∀ p q r : Addr, O.nx (((env.set i (some (slN P w p []))).set j (some (.own q []))).set l (some (.own r [])))) :
    EvS K (tAsg (tTup (tCons tDNewK (tCons (tLst tNil) (tCons (tLst tNil) tNil)))) (gTup K n3 (gCons (gName i) (gCons (gName j) (gCons (gName l) gNil))))) env O := fun B σ G H D I a b c d f => by
  subst hn
  intro p np
  refine ⟨Nat.zero_le _, fun q nq => ⟨Nat.zero_le _, fun r nr => ⟨(by decide : (3 : Nat) ≤ sizeLine), fun t nt => ⟨t, _, rfl, SqT.of upd_same, rfl, ?_⟩⟩⟩⟩
  obtain ⟨b1, s1⟩ := I.fresh np
  have I1 := (I.more (o := .dK []) np).setO (i := i) (s := slN P w p []) ⟨rfl, I.exH.fresh np, _, upd_same, [], .inr ⟨rfl, rfl⟩, List.nodup_nil, .nil⟩ rfl b1 s1
  obtain ⟨b2, s2⟩ := I1.fresh nq
  have I2 := (I1.more (o := .lst []) nq).setO (i := j) (s := .own q []) ⟨rfl, I1.exH.fresh nq, [], upd_same, .nil⟩ rfl b2 s2
  obtain ⟨b3, s3⟩ := I2.fresh nr
  have I3 := (I2.more (o := .lst []) nr).setO (i := l) (s := .own r []) ⟨rfl, I2.exH.fresh nr, [], upd_same, .nil⟩ rfl b3 s3
  refine ⟨_, _, rfl, _, _, rfl, _, _, rfl, rfl, ?_⟩
  exact a _ G _ _ (h p q r) (Ex.refl G) (I3.more nt)
end
end FD

set_option Elab.async false
set_option linter.all false
set_option maxRecDepth 100000
set_option maxHeartbeats 4000000
namespace FD
open PySem PySem.Spec PyProof.Rows L2
/-! ### enumerate of a tuple -/
def IteT (K : PySem.W.Frag) (q : Addr) : It where
  go := fun n H => ∃ (zs : List V) (z : V), SqT K H q zs ∧ zs[n]? = some z
  yld := fun n H v H2 => ∃ T z, v = .ref T ∧ H T = none ∧ H2 = upd H T (.tup [.int (n : Nat), z]) ∧ ∀ zs, SqT K H q zs → zs[n]? = some z
  stop := fun n H => ∃ zs : List V, SqT K H q zs ∧ zs.length ≤ n
set_option maxHeartbeats 1000000 in
theorem meets_enum1 {v : Value} {o : Obj} {Hq : Heap → Prop} (Bg : PySem.Begins v o Hq) :
    Meets (Builtin.«enumerate.__new__» ⟨[.type "enumerate", v], []⟩) (fun _ R s => Hq s.heap ∧
      R (.ok (.ret (.ref (s.heap.push o).objs.size))) { s with heap := (s.heap.push o).push { cls := .type "enumerate", data := .fields #[.none, .bool false, .ref s.heap.objs.size, rawInt 0, .none, .none] } }) :=
  .of_wp fun pr wd A R s hs => by
    obtain ⟨hp, gg, dd, tk, os⟩ := s; obtain ⟨hq, hs⟩ := hs
    have isSub := sub_enumerate
    have step : ∀ {A2 : Around} {E2 : Value → Shared → Prop} {Q2 : Value → Shared → Prop}, Q2 (.ref hp.objs.size) ⟨hp.push o, gg, dd, tk, os⟩ → wpAny (model pr wd) A2 (pyIter v) Q2 E2 ⟨hp, gg, dd, tk, os⟩ :=
      fun z => Bg.iter pr wd _ _ ⟨hp, gg, dd, tk, os⟩ _ hq z
    wp_walk using step
    refine wpAny_stack_any fun stk => wpAny_pure ?_
    split
    · rename_i cc _ _ _ _ _
      cases (cc == Value.type "enumerate")
      · wp_walk using step
        exact ⟨_, rfl, hs⟩
      · wp_walk using step
        exact ⟨_, rfl, hs⟩
    · wp_walk using step
      exact ⟨_, rfl, hs⟩
theorem enum1 {prog : Program} {w : World} {A : Around} {E : Value → Shared → Prop} {s : Shared} {v : Value} {o : Obj} {Hq : Heap → Prop} {Q : Value → Shared → Prop} (Bg : PySem.Begins v o Hq) (hq : Hq s.heap)
    (k : ∀ g, IsEnum g (s.heap.objs.size + 1) s.heap.objs.size 0 .none → g.get? s.heap.objs.size = some o → (∀ b u, s.heap.get? b = some u → g.get? b = some u) → Q (.ref (s.heap.objs.size + 1)) { s with heap := g }) :
    wpAny (model prog w) A (call (.type "enumerate") [v]) Q E s := by
  refine callType_new PySem.F.called_enumerate (by decide) (PySem.F.typeCall_enumerate_1 _) (PySem.F.newCall_enumerate_1 _) (fun ob => PySem.F.args_object_init_2 ob _) PySem.F.entry_enumerate_new (meets_enum1 Bg) ⟨hq, ?_⟩
  have sz : (s.heap.push o).objs.size = s.heap.objs.size + 1 := Heap.size_push ..
  show _ ∧ _
  rw [sz]
  have made : IsEnum ((s.heap.push o).push { cls := .type "enumerate", data := .fields #[.none, .bool false, .ref s.heap.objs.size, rawInt 0, .none, .none] }) (s.heap.objs.size + 1) s.heap.objs.size 0 .none := by
    have z := Heap.get?_push_size (s.heap.push o) (o := { cls := .type "enumerate", data := .fields #[.none, .bool false, .ref s.heap.objs.size, rawInt 0, .none, .none] }) rfl
    rwa [sz] at z
  exact ⟨⟨_, made, rfl⟩, k _ made (Heap.get?_push_of_some _ (Heap.get?_push_size _ Bg.free)) fun b u z => Heap.get?_push_of_some _ (Heap.get?_push_of_some _ z)⟩
theorem turn_enumT {P : Program} {w : World} {K : PySem.W.Frag} {elts : List Expr} {kk : Nat} {tpos : Pos} (q e it : Addr) :
    Turn P w K (.Tuple elts kk tpos) (IteT K q) [e, it] e (fun n g => (∃ last, IsEnum g e it ((n : Nat) : Int) last) ∧ g.IsTupleIter it q n ∧ e ≠ it) where
  mem := List.mem_cons_self
  obj := fun n g tn b hb => by
    obtain ⟨⟨last, he⟩, ⟨o, ho, hc, hd⟩, _⟩ := tn
    rcases List.mem_cons.mp hb with rfl | hb
    · exact ⟨_, he, fun v z => nomatch z⟩
    · obtain rfl := List.mem_singleton.mp hb
      exact ⟨o, ho, fun v z => by rw [hd] at z; cases z⟩
  keep := fun n g g' tn k => let ⟨⟨last, he⟩, hi, ne⟩ := tn; ⟨⟨last, k e List.mem_cons_self _ he⟩, hi.at fun o z => k it (List.mem_cons_of_mem _ List.mem_cons_self) o z, ne⟩
  item := by
    intro X hP hw hK calm n pins s σ H E I fp tn go
    subst hP hw hK
    obtain ⟨⟨last, he⟩, hit, ne⟩ := tn
    obtain ⟨zs, z, hz, hn⟩ := go
    obtain ⟨its, rel, p, few⟩ := I.tuple hz
    obtain ⟨u, hu, ru⟩ := rel.get hn
    have e_lt : e < s.heap.objs.size := Heap.lt_size he
    have it_lt : it < s.heap.objs.size := by obtain ⟨_, z, _⟩ := hit; exact Heap.lt_size z
    have eq_ne : q ≠ it := fun w => by
      obtain ⟨o, ho, hc, _⟩ := hit
      obtain ⟨o2, ho2, hc2, _⟩ := p
      rw [w, ho] at ho2
      cases ho2
      rw [hc] at hc2
      injection hc2 with hc2
      exact absurd hc2 (by decide)
    have eq_ne2 : e ≠ q := fun w => by
      obtain ⟨o2, ho2, hc2, _⟩ := p
      have he' : s.heap.get? e = _ := he
      rw [w, ho2] at he'
      cases he'
      injection hc2 with hc2
      exact absurd hc2 (by decide)
    have hlt : n < its.toArray.size := by
      have := (List.getElem?_eq_some_iff.mp hu).1
      simpa using this
    refine wpAny_pyNext_enum_itemD (Draws.tuple (A := X.A.in1) (I.ok.hd calm) it q eq_ne its.toArray) he ⟨hit, p⟩ hlt ne (by simp [ne, eq_ne2]) fun x g tk hx out hst hT _ stay => ?_
    have ex : x = u := by
      have hx' : its[n]? = some x := by simpa using hx
      rw [hu] at hx'
      exact (Option.some.inj hx').symm
    subst ex
    refine ⟨_, rfl, wpAny_letOwnedTupleGo_enum (s := { s with heap := g, toks := tk + 1 }) out fun g2 he2 sb => ?_⟩
    have hT2 : g2.get? s.heap.objs.size = some { cls := .type "tuple", data := .seq #[.int n tk, x] } := (sb.2 _ (Nat.ne_of_gt e_lt)).trans hT
    have mk : ObjOk X.prog X.w (upd H s.heap.objs.size (.tup [.int (n : Nat), z])) g2 s.heap.objs.size (.tup [.int (n : Nat), z]) :=
      ⟨(by decide : (2 : Nat) ≤ sizeLine), [.int n tk, x], .cons ⟨_, rfl⟩ (.cons ru .nil), ⟨_, hT2, rfl, _, rfl⟩⟩
    have J : Inv X pins σ (upd H s.heap.objs.size (.tup [.int (n : Nat), z])) { s with heap := g2, toks := tk + 1 } :=
      I.turnedNew (ch := [e, it]) (fun b ob hb w => (sb.2 b (fun y => hb (by simp [y]))).trans (stay b ob (fun y => hb (by simp [y])) (fun y => hb (by simp [y])) w)) fp (Nat.le_refl _) mk
    refine ⟨.ref s.heap.objs.size, _, J, rfl, ⟨_, z, rfl, I.hok.fresh (Nat.le_refl _), rfl, fun ys hy => by rw [I.tuple_inj hy hz]; exact hn⟩, ⟨⟨x, ?_⟩, hst.1.at fun o w => (sb.2 it (Ne.symm ne)).trans w, ne⟩, fun b hb => ?_⟩
    · rw [show ((n + 1 : Nat) : Int) = (n : Int) + 1 by omega]
      exact he2
    · have lt : b < s.heap.objs.size := by
        rcases List.mem_cons.mp hb with rfl | hb
        · exact e_lt
        · obtain rfl := List.mem_singleton.mp hb
          exact it_lt
      rw [upd_ne (Nat.ne_of_lt lt)]
      exact (fp b hb).1
  done := by
    intro X hP hw hK calm n pins s σ H E I fp tn sp
    subst hP hw hK
    obtain ⟨⟨last, he⟩, hit, ne⟩ := tn
    obtain ⟨zs, hz, hn⟩ := sp
    obtain ⟨its, rel, p, few⟩ := I.tuple hz
    obtain ⟨f0, f1, f2, f3, f4, f5⟩ := fp it (List.mem_cons_of_mem _ List.mem_cons_self)
    have ln := rel.length
    have eq_ne : q ≠ it := fun w => by
      obtain ⟨o, ho, hc, _⟩ := hit
      obtain ⟨o2, ho2, hc2, _⟩ := p
      rw [w, ho] at ho2
      cases ho2
      rw [hc] at hc2
      injection hc2 with hc2
      exact absurd hc2 (by decide)
    have ty : s.TypeIs (.ref e) "enumerate" := ⟨_, he, rfl⟩
    unfold pyNext
    refine wpAny_bind (wpAny_attempt (wpAny_callSpecial?_slot (name := Str.ofString "__next__") ty PySem.F.slot_enumerate_next (wpAny_call_entry PySem.F.slot_enumerate_next ty PySem.F.entry_enumerate_next ?_ (PySem.F.args_enumerate_next_1 _))))
    show wpAny _ _ (field (.ref e) 2 >>= _) _ _ _
    refine wpAny_bind (wpAny_field he rfl (x := .ref it) rfl ?_)
    refine wpAny_bind (wpAny_nextOf_tuple_end (A := X.A.in1) (I.ok.hd calm) hit (show s.heap.IsTuple q its.toArray from p) (by simp; omega) fun g er eb ⟨o, ho, hc⟩ => ?_)
    refine wpAny_bind (wpAny_isInstance (T := "StopIteration") (b := true) ⟨o, ho, hc⟩ isSubtype_stop ?_)
    exact wpAny_pure ⟨rfl, I.turned (t' := s.toks) (fun b o hb w => eb b o hb w) f0 f1 f3 f4 f5⟩
  self := fun A n s Q E tn k => let ⟨⟨_, he⟩, _⟩ := tn; wpAny_pyIter_enum he k
def iEnumT (K : PySem.W.Frag) (ta : TA) : TI := fun σ H R => ta σ H fun vs H1 => ∃ a xs, vs = [.ref a] ∧ SqT K H1 a xs ∧ R (IteT K a) H1
theorem pi_enumT {X : Cx} {e : Expr} {ta : TA} {p pos tpos : Pos} {elts : List Expr} {kk : Nat} (hg : Gl X "enumerate") (hm : X.mg "enumerate" = none) (ha : PA X [e] ta) (hs : starEach [e] X.env = [(false, eval e X.env)] := by rfl) :
    PI X (.Tuple elts kk tpos) (.Call (.Name "enumerate" p) [e] [] pos) (iEnumT X.K ta) := by
  refine ⟨fun pins s σ H R I h => ?_⟩
  refine Call_ (ld_blt I hg hm boot_enumerate (PyProof.Rows.callWith_type1 (thn (ha.run pos pins s σ H _ I h) fun us s1 ⟨vs, H1, J, rel, k⟩ => ?_) hs rfl))
  obtain ⟨q, zs, rfl, hq, k⟩ := k
  obtain ⟨u, rfl, ru⟩ := vals1 rel
  cases ru
  obtain ⟨its, rv, tp, few⟩ := J.tuple hq
  refine enum1 (begins_tuple q its.toArray) tp fun g he hit stay => wpAny_pyIter_enum he ?_
  have J2 : Inv X pins σ H1 { s1 with heap := g } := J.kept (t' := s1.toks) stay
  refine ⟨s1.heap.objs.size + 1, [s1.heap.objs.size + 1, s1.heap.objs.size], _, _, H1, rfl, J2, turn_enumT q (s1.heap.objs.size + 1) s1.heap.objs.size, ⟨⟨.none, he⟩, ⟨_, hit, rfl, rfl⟩, Nat.succ_ne_self _⟩, fun b hb => ?_, k⟩
  have le : s1.heap.objs.size ≤ b := by
    rcases List.mem_cons.mp hb with rfl | hb
    · exact Nat.le_add_right _ _
    · obtain rfl := List.mem_singleton.mp hb
      exact Nat.le_refl _
  exact J.fpOk le (J.hok.fresh le)
/-- of a list or of a tuple -/
def iEnumS (K : PySem.W.Frag) (ta : TA) : TI := fun σ H R => iEnum K ta σ H R ∨ iEnumT K ta σ H R
theorem pi_enumS {X : Cx} {K : PySem.W.Frag} (hK : X.K = K) {e : Expr} {ta : TA} {p pos tpos : Pos} {elts : List Expr} {kk : Nat} (hm : X.mg "enumerate" = none) (ha : PA X [e] ta) (hg : Gl X "enumerate") (hs : starEach [e] X.env = [(false, eval e X.env)]) :
    PI X (.Tuple elts kk tpos) (.Call (.Name "enumerate" p) [e] [] pos) (iEnumS K ta) := by
  subst hK
  exact ⟨fun pins s σ H R I h => h.elim ((pi_enum hg hm ha hs).run pins s σ H R I) ((pi_enumT hg hm ha hs).run pins s σ H R I)⟩
/-! ### over what is known -/
/-- an iterable that yields pairs, a new one each turn -/
def EvIE (K : PySem.W.Frag) (wi : TI) (env : En) (P : En → List PyData → Prop) : Prop :=
  ∀ (B : Bs) (σ : L2.St) (G H : Hp) (R : It → Hp → Prop), EnvOk K B G H σ env → (∀ J G1 H1 e1 xs, P e1 xs → Ex G G1 → EnvOk K B G1 H1 σ e1 →
    (∀ (G2 H2 : Hp), Ex G1 G2 → Ex G2 H2 → (∀ n, n < xs.length → J.go n H2 ∧ ∀ v H3, J.yld n H2 v H3 → ∃ T x d, v = .ref T ∧ H2 T = none ∧ H3 = upd H2 T (.tup [.int (n : Nat), x]) ∧ xs[n]? = some d ∧ Dd G2 x d) ∧ J.stop xs.length H2) → R J H1) → wi σ H R
section
variable {K : PySem.W.Frag} {env : En} {O : Outs} {te : TE} {t : TS} {Pl : En → List PyData → Prop}
theorem ei_enumL (h : EvE K te env fun e1 d => ∃ xs, d = .list xs ∧ Pl e1 xs) : EvIE K (iEnumS K (tCons te tNil)) env Pl := fun B σ G H R I q => .inl (h B σ G H _ I fun v G1 H1 e1 d p1 x1 I1 r1 => by
  obtain ⟨xs, rfl, pp⟩ := p1
  cases r1 with
  | @lst a vs _ ha ra =>
    refine ⟨a, vs, rfl, SqL.of (I1.exH _ _ ha), q _ G1 H1 e1 xs pp x1 I1 fun G2 H2 y1 y2 => ?_⟩
    have w : SqL K H2 a vs := SqL.of (y2 _ _ (y1 _ _ ha))
    refine ⟨fun n lt => ?_, vs, w, by rw [ra.length]; exact Nat.le_refl _⟩
    obtain ⟨v, hv, rv⟩ := ra.get (List.getElem?_eq_getElem lt)
    refine ⟨⟨vs, v, w, hv⟩, fun u H3 y => ?_⟩
    obtain ⟨T, x, rfl, nT, rfl, all⟩ := y
    have := all vs w
    rw [hv] at this
    cases this
    exact ⟨T, v, _, rfl, nT, rfl, List.getElem?_eq_getElem lt, rv.ex y1⟩)
theorem ei_enumT (h : EvE K te env fun e1 d => ∃ xs, d = .tuple xs ∧ Pl e1 xs) : EvIE K (iEnumS K (tCons te tNil)) env Pl := fun B σ G H R I q => .inr (h B σ G H _ I fun v G1 H1 e1 d p1 x1 I1 r1 => by
  obtain ⟨xs, rfl, pp⟩ := p1
  cases r1 with
  | @tup a vs _ ha ra =>
    refine ⟨a, vs, rfl, SqT.of (I1.exH _ _ ha), q _ G1 H1 e1 xs pp x1 I1 fun G2 H2 y1 y2 => ?_⟩
    have w : SqT K H2 a vs := SqT.of (y2 _ _ (y1 _ _ ha))
    refine ⟨fun n lt => ?_, vs, w, by rw [ra.length]; exact Nat.le_refl _⟩
    obtain ⟨v, hv, rv⟩ := ra.get (List.getElem?_eq_getElem lt)
    refine ⟨⟨vs, v, w, hv⟩, fun u H3 y => ?_⟩
    obtain ⟨T, x, rfl, nT, rfl, all⟩ := y
    have := all vs w
    rw [hv] at this
    cases this
    exact ⟨T, v, _, rfl, nT, rfl, List.getElem?_eq_getElem lt, rv.ex y1⟩)
/-- for .. in such an iterable -/
theorem es_forE {wi : TI} {g : TG} (h : EvIE K wi env fun e1 xs => ∃ W : Nat → En → Prop, W 0 e1 ∧ (∀ (i : Nat) (d : PyData) (e2 : En), xs[i]? = some d → W i e2 →
    EvG K g (.tuple [.int (i : Nat), d]) e2 fun e3 => EvS K t e3 { nx := W (i + 1), rt := O.rt, bk := O.nx, ct := W (i + 1), rn := O.rn }) ∧ ∀ e2, W xs.length e2 → O.nx e2) : EvS K (tFor wi g t) env O := fun B σ G H D I a b c d f =>
  h B σ G H _ I fun J G1 H1 e1 xs p1 x1 I1 j => by
    obtain ⟨W, w0, ws, wd⟩ := p1
    refine ⟨fun i m σ2 H2 => ∃ G2 e2, m = xs.length - i ∧ i ≤ xs.length ∧ W i e2 ∧ Ex G1 G2 ∧ EnvOk K B G2 H2 σ2 e2, ⟨_, G1, e1, rfl, Nat.zero_le _, w0, Ex.refl _, I1⟩, ?_⟩
    rintro i m σ2 H2 ⟨G2, e2, rfl, hi, w2, x2, I2⟩
    obtain ⟨jg, js⟩ := j G2 H2 x2 I2.exH
    by_cases hlt : i < xs.length
    · obtain ⟨go, yl⟩ := jg i hlt
      refine .inr ⟨go, fun σ3 H3 => ∃ G3 e3, W (i + 1) e3 ∧ Ex G1 G3 ∧ EnvOk K B G3 H3 σ3 e3, fun σ3 H3 ⟨G3, e3, w3, x3, I3⟩ => ⟨xs.length - (i + 1), by omega, G3, e3, rfl, hlt, w3, x3, I3⟩, fun v H3 y => ?_⟩
      obtain ⟨T, x, dd, rfl, nT, rfl, hd, rd⟩ := yl v H3 y
      have gT : G2 T = none := I2.exH.fresh nT
      have x3 : Ex G2 (upd G2 T (.tup [.int (i : Nat), x])) := Ex.new gT
      have I3 := I2.new (o := .tup [.int (i : Nat), x]) nT
      have r3 : Dd (upd G2 T (.tup [.int (i : Nat), x])) (.ref T) (.tuple [.int (i : Nat), dd]) := .tup upd_same (.cons (.int _) (.cons (rd.ex x3) .nil))
      refine ws i dd e2 hd w2 B σ2 _ _ _ _ I3 r3 fun σ3 e3 p3 I4 => ?_
      exact p3 B σ3 _ _ _ I4 (fun σ4 G4 H4 e4 p4 x4 I5 => ⟨G4, e4, p4, (x2.trans x3).trans x4, I5⟩) (fun v G4 H4 σ4 e4 d4 p4 x4 I5 r5 => b v G4 H4 σ4 e4 d4 p4 (((x1.trans x2).trans x3).trans x4) I5 r5)
        (fun σ4 G4 H4 e4 p4 x4 I5 => a σ4 G4 H4 e4 p4 (((x1.trans x2).trans x3).trans x4) I5) (fun σ4 G4 H4 e4 p4 x4 I5 => ⟨G4, e4, p4, (x2.trans x3).trans x4, I5⟩) (fun F q σ4 G4 H4 e4 p4 x4 => f F q σ4 G4 H4 e4 p4 (((x1.trans x2).trans x3).trans x4))
    · have e : i = xs.length := by omega
      subst e
      exact .inl ⟨js, a σ2 G2 H2 e2 (wd e2 w2) (x1.trans x2) I2⟩
/-- [F for i, (a, b) in such an iterable if p] -/
theorem ev_enum {wi : TI} {tt : TT} {i j l : Nat} {P : En → PyData → Prop} {xs : List PyData} (p : Nat → Bool) (F : Nat → PyData) (h0 : EvIE K wi env fun e1 ys => e1 = env ∧ ys = xs) (he0 : ∀ k s, env[k]? = some (some s) → k ∉ [i, j, l]) (he : wipeE env [i, j, l] = env)
    (hey : ∀ a b c, wipeE (((env.set i (some (.dat a))).set j (some (.dat b))).set l (some (.dat c))) [i, j, l] = env) (hl : xs.length ≤ 100000)
    (hel : ∀ (n : Nat) (d : PyData), xs[n]? = some d → ∃ b c, d = .tuple [b, c] ∧ EvB K tt (((env.set i (some (.dat (.int (n : Nat))))).set j (some (.dat b))).set l (some (.dat c))) fun e b1 => e = ((env.set i (some (.dat (.int (n : Nat))))).set j (some (.dat b))).set l (some (.dat c)) ∧ b1 = p n ∧ (b1 = true → EvE K te e fun e2 y => e2 = e ∧ y = F n))
    (q : P env (.list (((List.range xs.length).filter p).map F))) : EvE K (tLc wi (gTup K 2 (gCons (gName i) (gCons (gTup K 2 (gCons (gName j) (gCons (gName l) gNil))) gNil))) tt te [i, j, l]) env P := fun B σ G H Q I qq => by
  refine h0 B σ G H _ I fun J G1 H1 e1 ys ⟨p1, p2⟩ x1 I1 jk D nD => ?_
  subst p1 p2
  have gD : G1 D = none := I1.exH.fresh nD
  obtain ⟨bD, sD⟩ := I1.fresh nD
  have mD : ¬ B.mu D := fun m => by obtain ⟨o, ho⟩ := I1.mus D m; rw [bD] at ho; cases ho
  have gB : B.G D = none := I1.exG.fresh gD
  have big : (100000 : Nat) < sizeLine := by decide
  have start : EnvOk K ⟨upd B.H D (.lst []), B.G, B.mu⟩ G1 (upd H1 D (.lst [])) (wipe σ [i, j, l]) e1 := by
    have := (I1.more (o := .lst []) nD).wiped [i, j, l]
    rw [he] at this
    exact EnvOk.hide this upd_same gD sD mD
  let St := fun (n : Nat) (H2 : Hp) => n ≤ ys.length ∧ ∃ (G2 : Hp) (av : List V), Ex G1 G2 ∧ DdAll G2 av (((List.range n).filter p).map F) ∧ EnvOk K ⟨upd B.H D (.lst av), B.G, B.mu⟩ G2 H2 (wipe σ [i, j, l]) e1
  refine ⟨fun n m H2 => m = ys.length - n ∧ St n H2, ⟨_, rfl, Nat.zero_le _, G1, [], Ex.refl _, .nil, start⟩, ?_⟩
  rintro n m H2 ⟨rfl, hn, G2, av, x2, ra, I2⟩
  obtain ⟨jg, js⟩ := jk G2 H2 x2 I2.exH
  by_cases hlt : n < ys.length
  · obtain ⟨go, yl⟩ := jg n hlt
    refine .inr ⟨go, St (n + 1), fun H3 s3 => ⟨ys.length - (n + 1), by omega, rfl, s3⟩, fun v H3 y => ?_⟩
    obtain ⟨T, x, dd, rfl, nT, rfl, hd, rd⟩ := yl v H3 y
    obtain ⟨b, c, rfl, ev⟩ := hel n dd hd
    have few : av.length < sizeLine := by
      rw [ra.length, List.length_map]
      have := List.length_filter_le p (List.range n)
      rw [List.length_range] at this
      omega
    have gT : G2 T = none := I2.exH.fresh nT
    have x3 : Ex G2 (upd G2 T (.tup [.int (n : Nat), x])) := Ex.new gT
    have I2' := I2.new (o := .tup [.int (n : Nat), x]) nT
    cases rd with
    | @tup q0 _ _ hq rq =>
      cases rq with
      | @cons v1 _ _ _ r1 rq =>
        obtain ⟨v2, rfl, r2⟩ := rq.one
        have I3 := ((I2'.setD (i := i) (.int (n : Nat))).setD (i := j) (r1.ex x3)).setD (i := l) (r2.ex x3)
        have bk : wipe ((((wipe σ [i, j, l]).set i (some (.int (n : Nat)))).set j (some v1)).set l (some v2)) [i, j, l] = wipe σ [i, j, l] := by rw [wipe_set (by simp), wipe_set (by simp), wipe_set (by simp), wipe_sub fun _ z => z]
        refine ⟨T, _, rfl, SqT.of upd_same, rfl, _, _, rfl, _, _, rfl, ⟨q0, _, rfl, SqT.of (I2'.exH _ _ (x3 _ _ hq)), rfl, v1, [v2], rfl, v2, [], rfl, rfl, rfl, bk, ?_⟩⟩
        refine ev _ _ _ _ _ I3 fun bb G4 H4 e4 ⟨s1, s2, s3⟩ x4 I4 => ?_
        subst s1
        cases bb with
        | true =>
          refine iteT (s3 rfl _ _ G4 H4 _ I4 fun yv G5 H5 e5 yd ⟨p5, p6⟩ x5 I5 r5 => ?_)
          subst p5 p6
          have hD5 : H5 D = some (.lst av) := I5.keep D _ upd_same mD
          refine ⟨av, hD5, few, hlt, G5, av ++ [yv], ((x2.trans x3).trans x4).trans x5, ?_, ?_⟩
          · rw [List.range_succ, List.filter_append, List.map_append, List.filter_cons, ← s2]
            exact (ra.ex ((x3.trans x4).trans x5)).append (.cons r5 .nil)
          · have := (I5.rehide (o' := .lst (av ++ [yv])) bD mD gB).wiped [i, j, l]
            rw [bk, hey] at this
            exact this
        | false =>
          refine iteF ⟨hlt, G4, av, (x2.trans x3).trans x4, ?_, ?_⟩
          · rw [List.range_succ, List.filter_append, List.map_append, List.filter_cons, ← s2]
            show DdAll G4 av (_ ++ [])
            rw [List.append_nil]
            exact ra.ex (x3.trans x4)
          · have := I4.wiped [i, j, l]
            rw [bk, hey] at this
            exact this
  · have e : n = ys.length := by omega
    subst e
    obtain ⟨I6, hD5, gD5, sD5⟩ := I2.unhide bD mD gB
    have I7 := (I6.unwiped he0).freeze hD5 gD5 sD5 bD
    exact .inl ⟨js, qq _ _ _ _ _ q ((x1.trans x2).trans (Ex.new gD5)) I7 (.lst upd_same (ra.ex (Ex.new gD5)))⟩
/-- [F for a, (b, c) in xs] -/
theorem ev_map3 {wi : TI} {i j l : Nat} {P : En → PyData → Prop} {xs : List PyData} (F : PyData → PyData) (h0 : EvI K wi env fun e1 ys => e1 = env ∧ ys = xs) (he0 : ∀ k s, env[k]? = some (some s) → k ∉ [i, j, l]) (he : wipeE env [i, j, l] = env)
    (hey : ∀ a b c, wipeE (((env.set i (some (.dat a))).set j (some (.dat b))).set l (some (.dat c))) [i, j, l] = env) (hl : xs.length ≤ 100000)
    (hel : ∀ d ∈ xs, ∃ a b c, d = .tuple [a, .tuple [b, c]] ∧ EvE K te (((env.set i (some (.dat a))).set j (some (.dat b))).set l (some (.dat c))) fun e y => e = ((env.set i (some (.dat a))).set j (some (.dat b))).set l (some (.dat c)) ∧ y = F d)
    (q : P env (.list (xs.map F))) : EvE K (tLc wi (gTup K 2 (gCons (gName i) (gCons (gTup K 2 (gCons (gName j) (gCons (gName l) gNil))) gNil))) tYes te [i, j, l]) env P := fun B σ G H Q I qq => by
  refine h0 B σ G H _ I fun J G1 H1 e1 ys ⟨p1, p2⟩ x1 I1 jk D nD => ?_
  subst p1 p2
  have gD : G1 D = none := I1.exH.fresh nD
  obtain ⟨bD, sD⟩ := I1.fresh nD
  have mD : ¬ B.mu D := fun m => by obtain ⟨o, ho⟩ := I1.mus D m; rw [bD] at ho; cases ho
  have gB : B.G D = none := I1.exG.fresh gD
  have big : (100000 : Nat) < sizeLine := by decide
  have start : EnvOk K ⟨upd B.H D (.lst []), B.G, B.mu⟩ G1 (upd H1 D (.lst [])) (wipe σ [i, j, l]) e1 := by
    have := (I1.more (o := .lst []) nD).wiped [i, j, l]
    rw [he] at this
    exact EnvOk.hide this upd_same gD sD mD
  let St := fun (n : Nat) (H2 : Hp) => n ≤ ys.length ∧ ∃ (G2 : Hp) (av : List V), Ex G1 G2 ∧ DdAll G2 av ((ys.take n).map F) ∧ EnvOk K ⟨upd B.H D (.lst av), B.G, B.mu⟩ G2 H2 (wipe σ [i, j, l]) e1
  refine ⟨fun n m H2 => m = ys.length - n ∧ St n H2, ⟨_, rfl, Nat.zero_le _, G1, [], Ex.refl _, .nil, start⟩, ?_⟩
  rintro n m H2 ⟨rfl, hn, G2, av, x2, ra, I2⟩
  obtain ⟨jg, js⟩ := jk G2 H2 x2 I2.exH
  by_cases hlt : n < ys.length
  · obtain ⟨go, yl⟩ := jg n ys[n] (List.getElem?_eq_getElem hlt)
    refine .inr ⟨go, St (n + 1), fun H3 s3 => ⟨ys.length - (n + 1), by omega, rfl, s3⟩, fun x H3 y => ?_⟩
    obtain ⟨e, r⟩ := yl x H3 y
    subst e
    have tk : (ys.take (n + 1)).map F = (ys.take n).map F ++ [F ys[n]] := by
      rw [← List.take_append_getElem hlt, List.map_append]; rfl
    obtain ⟨a, b, c, ed, ev⟩ := hel _ (List.getElem_mem hlt)
    generalize hdd : ys[n] = d at r ed ev tk
    subst ed
    cases r with
    | @tup q1 _ _ hq1 rc =>
      cases rc with
      | @cons v1 _ _ _ r1 rc =>
        obtain ⟨w1, rfl, rw1⟩ := rc.one
        cases rw1 with
        | @tup q2 _ _ hq2 rc =>
          cases rc with
          | @cons v2 _ _ _ r2 rc =>
            obtain ⟨v3, rfl, r3⟩ := rc.one
            have I3 := ((I2.setD (i := i) r1).setD (i := j) r2).setD (i := l) r3
            have bk : wipe ((((wipe σ [i, j, l]).set i (some v1)).set j (some v2)).set l (some v3)) [i, j, l] = wipe σ [i, j, l] := by rw [wipe_set (by simp), wipe_set (by simp), wipe_set (by simp), wipe_sub fun _ z => z]
            refine ⟨q1, _, rfl, SqT.of (I2.exH _ _ hq1), rfl, _, _, rfl, _, _, rfl, ⟨q2, _, rfl, SqT.of (I2.exH _ _ hq2), rfl, v2, [v3], rfl, v3, [], rfl, rfl, rfl, bk, ?_⟩⟩
            delta tYes
            refine iteT (ev _ _ G2 H3 _ I3 fun yv G5 H5 e5 yd ⟨p5, p6⟩ x5 I5 r5 => ?_)
            subst p5 p6
            have hD5 : H5 D = some (.lst av) := I5.keep D _ upd_same mD
            refine ⟨av, hD5, by rw [ra.length, List.length_map, List.length_take]; omega, hlt, G5, av ++ [yv], x2.trans x5, ?_, ?_⟩
            · rw [tk]
              exact (ra.ex x5).append (.cons r5 .nil)
            · have := (I5.rehide (o' := .lst (av ++ [yv])) bD mD gB).wiped [i, j, l]
              rw [bk, hey] at this
              exact this
  · have e : n = ys.length := by omega
    subst e
    rw [List.take_length] at ra
    obtain ⟨I6, hD5, gD5, sD5⟩ := I2.unhide bD mD gB
    have I7 := (I6.unwiped he0).freeze hD5 gD5 sD5 bD
    exact .inl ⟨js, qq _ _ _ _ _ q ((x1.trans x2).trans (Ex.new gD5)) I7 (.lst upd_same (ra.ex (Ex.new gD5)))⟩
end
end FD

set_option Elab.async false
set_option linter.all false
set_option maxRecDepth 100000
set_option maxHeartbeats 4000000
namespace FD
open PySem PySem.Spec PySem.Calls PySem.Froz PyProof.Rows L2
/-! ### a set of letters, made by a comprehension, and sorted -/
def SetLt (P : Program) (w : World) (a : Addr) (p : Nat → Prop) : HO := .ext fun h => SetAtS P w h a p
def AtLt (P : Program) (w : World) (a : Addr) (p : Nat → Prop) (o : HO) : Prop := o = SetLt P w a p ∨ ((∀ c, ¬ p c) ∧ ∃ S, o = SetO w a S 0)
def AzP (p : Nat → Prop) : Prop := ∀ c, p c → 97 ≤ c ∧ c ≤ 122
def alph : List Nat := List.range' 97 26
theorem alph_az : Az alph := fun c hc => by
  have := List.mem_range'_1.mp hc
  omega
theorem alph_mem {p : Nat → Prop} (h : AzP p) : ∀ c, p c → c ∈ alph := fun c hc => by
  have := h c hc
  exact List.mem_range'_1.mpr (by omega)
section
variable {X : Cx} {pins : List (Addr × Obj)} {σ : L2.St} {H : Hp} {s : Shared} {a : Addr} {p : Nat → Prop} {o : HO}
theorem lt_at (I : Inv X pins σ H s) (e : H a = some o) (at_ : AtLt X.prog X.w a p o) : SetAtS X.prog X.w s.heap a p := by
  rcases at_ with rfl | ⟨no, S, rfl⟩
  · exact (I.hok a _ e).1
  · obtain ⟨ob, es, ep, t, ho, ⟨x1, x2, x3⟩, hd, _, _, _, _, fit, sz, ris, led⟩ := setO_get I e
    have e0 : es = #[] := Array.eq_empty_of_size_eq_zero sz
    subst e0
    refine ⟨(#[], ep, t), [], ?_, ⟨TxOk.nil fit, List.Perm.nil, ris, led⟩, List.nodup_nil, fun c => Iff.intro (fun h => (by cases h)) (fun h => (no c h).elim)⟩
    obtain ⟨c1, c2, c3, c4⟩ := ob
    dsimp only at x1 x2 x3 hd
    subst x1 x2 x3 hd
    exact ho
theorem lt_new {P : Program} {w : World} {H' : Hp} {h : Heap} (R : SetAtS P w h a p) : ObjOk P w H' h a (SetLt P w a p) := by
  obtain ⟨D, cs, e, r⟩ := R
  exact ⟨⟨D, cs, e, r⟩, ⟨_, e⟩, fun h1 h2 q k => SetAtS.keep q k⟩
theorem call_addLt {P : Program} {w : World} {A : Around} {E : Value → Shared → Prop} {Q : Value → Shared → Prop} {c : Nat} {u : Tok} (R : SetAtS P w s.heap a p) (az : AzP p)
    (k : ∀ g, Heap.SameBut a s.heap g → SetAtS P w g a (fun d => p d ∨ d = c) → Q .none { s with heap := g, toks := s.toks + 1 }) :
    wpAny (model P w) A (call (.builtin "set.add") [.ref a, .str (sing c) u]) Q E s := by
  obtain ⟨D, cs, at_, pay, nd, mem⟩ := R
  have ty : s.TypeIs (.ref a) "set" := ⟨_, at_, rfl⟩
  have few : cs.length ≤ 26 := az_few nd alph_az fun d hd => alph_mem az d ((mem d).mp hd)
  refine wpAny_call_entry PySem.F.slot_set_add ty PySem.F.entry_set_add ?_ (PySem.F.args_set_add_2 _ _)
  unfold Builtin.«set.add» Builtin.Frozenset.oneOther
  simp only [List.isEmpty_nil, bind_assoc]
  unfold Builtin.Frozenset.addrOf setAdd
  refine wpAny_bind (wpAny_pure (wpAny_bind (wpAny_pure (wpAny_bind (wpAny_holding (wpAny_bind ((PySem.strKind P w).pyHash (k := sing c) (is_str _ _) ?_)))))))
  by_cases old : c ∈ cs
  · refine Pay.again (s := { s with toks := s.toks + 1 }) at_ pay old (Nat.lt_of_le_of_lt few (by decide)) ?_
    refine wpAny_pure ⟨_, rfl, k s.heap ⟨rfl, fun _ _ => rfl⟩ ⟨D, cs, at_, pay, nd, fun d => ?_⟩⟩
    rw [mem d]
    exact ⟨.inl, fun z => z.elim id fun e => e ▸ (mem c).mp old⟩
  · refine add_x (l := cs.map sing) (D := D) (s := { s with toks := s.toks + 1 }) at_ pay.ok (fun z => old (one_mem.mp z)) (by rw [List.length_map]; exact Nat.lt_of_le_of_lt (Nat.succ_le_succ few) (by decide)) ?_
    refine wpAny_pure ⟨_, rfl, k _ (.update ..) ⟨_, c :: cs, get_upd _ at_ rfl, pay.add u, List.nodup_cons.mpr ⟨old, nd⟩, fun d => ?_⟩⟩
    rw [List.mem_cons, mem d]
    exact Or.comm
def rSAddL (P : Program) (w : World) : V → List V → Hp → VK → Prop := fun x xs H Q => ∃ (a : Addr) (c : Nat) (p : Nat → Prop) (o : HO), x = V.ref a ∧ xs = [.str (sing c)] ∧ H a = some o ∧ AtLt P w a p o ∧ AzP p ∧ Q .non (upd H a (SetLt P w a (fun d => p d ∨ d = c)))
theorem mt_saddL : MtR X "set.add" (rSAddL X.prog X.w) := by
  intro pins s σ H x xs v us Q I rx rxs h
  obtain ⟨a, c, p, o, rfl, rfl, ha, at_, az, q⟩ := h
  cases rx
  obtain ⟨u, rfl, ru⟩ := vals1 rxs
  obtain ⟨tk, rfl⟩ := ru
  refine call_addLt (lt_at I ha at_) az fun g sb new => ?_
  have he : ∃ u, g.get? a = some u := by
    obtain ⟨D, cs, e, _⟩ := new
    exact ⟨_, e⟩
  have mu : Mut (H a) := by
    rw [ha]
    rcases at_ with rfl | ⟨_, S, rfl⟩
    · exact True.intro
    · exact True.intro
  exact ⟨.non, _, I.write (e := a) (t' := s.toks + 1) mu (.inl rfl) (fun b u hb hu => (sb.2 b hb).trans hu) he (lt_new new), rfl, q⟩
end
/-- a letter laid into the set at D, then Nx -/
def AddLt (P : Program) (w : World) (D : Addr) (Nx : Hp → Prop) : VK := fun y H => ∃ (c : Nat) (p : Nat → Prop) (o : HO), y = V.str (sing c) ∧ H D = some o ∧ AtLt P w D p o ∧ AzP p ∧ Nx (upd H D (SetLt P w D (fun d => p d ∨ d = c)))
section
variable {X : Cx} {elt tg iter tg1 iter1 : Expr} {ifs ifs1 : List Expr} {scope : Scope} {pos : Pos} {wi1 : TI} {g g1 : TG} {tt tt1 : TT} {te : TE} {vs vs1 : List Nat} {σ : L2.St} {Q : VK}
/-- the second clause, from its iterator on -/
def InOweL (P : Program) (w : World) (g1 : TG) (tt1 : TT) (te : TE) (vs1 : List Nat) (σ2 : L2.St) (D : Addr) (Nx : Hp → Prop) (J1 : It) (H4 : Hp) : Prop := ∃ W1 : Nat → Nat → Hp → Prop, (∃ m, W1 0 m H4) ∧ ∀ j k H, W1 j k H →
  (J1.stop j H ∧ Nx H) ∨ (J1.go j H ∧ ∃ Nx1 : Hp → Prop, (∀ H', Nx1 H' → ∃ k', k' < k ∧ W1 (j + 1) k' H') ∧ ∀ x H', J1.yld j H x H' → g1 x (wipe σ2 vs1) H' fun σ3 H5 => wipe σ3 vs1 = wipe σ2 vs1 ∧ tt1 σ3 H5 fun b H6 =>
    if b = true then te σ3 H6 (AddLt P w D Nx1) else Nx1 H6)
/-- {elt for tg in iter if .. for tg1 in iter1 if ..}: from the new set at D on -/
def TwoOweL (P : Program) (w : World) (g : TG) (tt : TT) (wi1 : TI) (g1 : TG) (tt1 : TT) (te : TE) (vs vs1 : List Nat) (σ : L2.St) (Q : VK) (J : It) (D : Addr) (H : Hp) : Prop := ∃ W : Nat → Nat → Hp → Prop, (∃ m, W 0 m H) ∧ ∀ i m H, W i m H →
  (J.stop i H ∧ Q (.ref D) H) ∨ (J.go i H ∧ ∃ Nx : Hp → Prop, (∀ H', Nx H' → ∃ m', m' < m ∧ W (i + 1) m' H') ∧ ∀ x H', J.yld i H x H' → g x (wipe σ vs) H' fun σ2 H2 => wipe σ2 vs = wipe σ vs ∧ tt σ2 H2 fun b H3 =>
    if b = true then wi1 σ2 H3 (InOweL P w g1 tt1 te vs1 σ2 D Nx) else Nx H3)
theorem loops_twoL (hc : X.calm = true) (hv : ∀ i ∈ vs1, i ∈ vs)
    (hg : ∀ (s : Shared) (H : Hp) (C : Addr) (cl : List (Str × Addr)) (fp : List Addr), PG (X.blk s H scope (compEnvC scope cl C X.env) fp) tg g) (ht : ∀ (s : Shared) (H : Hp) (C : Addr) (cl : List (Str × Addr)) (fp : List Addr), PTs (X.blk s H scope (compEnvC scope cl C X.env) fp) ifs tt)
    (hi1 : ∀ (s : Shared) (H : Hp) (C : Addr) (cl : List (Str × Addr)) (fp : List Addr), PI (X.blk s H scope (compEnvC scope cl C X.env) fp) tg1 iter1 wi1)
    (hg1 : ∀ (s : Shared) (H : Hp) (C : Addr) (cl : List (Str × Addr)) (fp : List Addr), PG (X.blk s H scope (compEnvC scope cl C X.env) fp) tg1 g1) (ht1 : ∀ (s : Shared) (H : Hp) (C : Addr) (cl : List (Str × Addr)) (fp : List Addr), PTs (X.blk s H scope (compEnvC scope cl C X.env) fp) ifs1 tt1)
    (he : ∀ (s : Shared) (H : Hp) (C : Addr) (cl : List (Str × Addr)) (fp : List Addr), PE (X.blk s H scope (compEnvC scope cl C X.env) fp) elt te) (hs1 : ∀ env x, foldedSetIterable iter1 env x = pure x) :
    LoopsOwe X (Sc2 elt tg iter ifs tg1 iter1 ifs1 scope pos) tg scope vs σ (TwoOweL X.prog X.w g tt wi1 g1 tt1 te vs vs1 σ Q) Q := by
  intro J D it C cl fp tn s3 s4 H3 post T I4 at4 no4
  obtain ⟨W, ⟨m0, w0⟩, turn⟩ := post
  have pg := hg s3 H3 C cl fp
  have pt := ht s3 H3 C cl fp
  have pe := he s3 H3 C cl fp
  have pi1 := hi1 s3 H3 C cl fp
  have pg1 := hg1 s3 H3 C cl fp
  have pt1 := ht1 s3 H3 C cl fp
  generalize compEnvC scope cl C X.env = ce at I4 pg pt pe pi1 pg1 pt1 ⊢
  refine outer_loop (hs1 ce) (fun n s' => ∃ i H', Inv (X.blk s3 H3 scope ce fp) [] (wipe σ vs) H' s' ∧ tn i s'.heap ∧ (∀ b ∈ fp, H' b = none) ∧ W i n H') ?_ m0 ⟨0, H3, I4, at4, no4, w0⟩
  rintro n s5 ⟨i, H5, I5, at5, no5, w5⟩
  rcases turn i n H5 w5 with ⟨stop, q⟩ | ⟨go, Nx, less, step⟩
  · refine thnF (T.done (X.blk s3 H3 scope ce fp) rfl rfl rfl hc i [] s5 _ H5 (fun _ _ => False) I5 (exf_ok I5 no5) at5 stop) fun r s6 ⟨hr, I6⟩ => ?_
    subst hr
    exact ⟨_, H5, I6, q⟩
  · refine turn_once (X := X.blk s3 H3 scope ce fp) T hc rfl I5 (exf_ok I5 no5) at5 go pg pt step fun hp σ2 b H6 s6 I6 same z back => ?_
    obtain ⟨l1, l2⟩ := wipe_back same
    have fin : ∀ {σ' : L2.St} {s' : Shared} {H' : Hp}, Inv (X.blk s3 H3 scope ce fp) ([] ++ hp) σ' H' s' → (wipe σ vs).length = σ'.length → (∀ (j : Nat) v, (wipe σ vs)[j]? = some (some v) → σ'[j]? = some (some v)) → Nx H' →
        ∃ m, m < n ∧ ∃ i H', Inv (X.blk s3 H3 scope ce fp) [] (wipe σ vs) H' s' ∧ tn i s'.heap ∧ (∀ b ∈ fp, H' b = none) ∧ W i m H' := fun {σ' s' H'} I' k1 k2 nx => by
      obtain ⟨m', hm, w'⟩ := less H' nx
      obtain ⟨I8, at8, no8⟩ := back _ _ _ I'
      exact ⟨m', hm, i + 1, H', I8.weak k1 k2, at8, no8, w'⟩
    cases b with
    | false =>
      simp only [Bool.false_eq_true, if_false] at z ⊢
      exact fin I6 l1 l2 z
    | true =>
      simp only [if_true] at z ⊢
      refine thnF (pi1.run _ s6 σ2 H6 _ I6 z) fun v s7 k7 => thnF k7 fun it0 s8 k8 => ?_
      obtain ⟨it1, fp1, tn1, J1, H8, rfl, I8, T1, at8, away8, W1, ⟨m1, w1⟩, turn1⟩ := k8
      have l3 : (wipe σ vs).length = (wipe σ2 vs1).length := by rw [wipe_length σ2 vs1]; exact l1
      have l4 : ∀ (j : Nat) v, (wipe σ vs)[j]? = some (some v) → (wipe σ2 vs1)[j]? = some (some v) := fun j v e => by
        rw [← same] at e
        obtain ⟨e1, e2⟩ := wipe_some e
        rw [wipe_out fun k => e2 (hv j k)]
        exact e1
      have loop : codeAny (model X.prog X.w) X.A (.compLoop (Sc2 elt tg iter ifs tg1 iter1 ifs1 scope pos) 1 (.ref it1) (.ref D) ce)
          (fun r s' => match r with
            | .ok _ => ∃ m, m < n ∧ ∃ i H', Inv (X.blk s3 H3 scope ce fp) [] (wipe σ vs) H' s' ∧ tn i s'.heap ∧ (∀ b ∈ fp, H' b = none) ∧ W i m H'
            | .error _ => False) s8 := by
        refine inner_loop (fun k s' => ∃ j H', Inv (X.blk s3 H3 scope ce fp) ([] ++ hp) (wipe σ2 vs1) H' s' ∧ tn1 j s'.heap ∧ (∀ b ∈ fp1, H' b = none) ∧ W1 j k H') ?_ m1 ⟨0, H8, I8.weak (wipe_length _ _) (fun j v e => (wipe_some e).1), at8, fun b hb => (away8 b hb).1, w1⟩
        rintro k s9 ⟨j, H9, I9, at9, no9, w9⟩
        have stat : ∀ b ∈ fp1, FpOk (X.blk s3 H3 scope ce fp) ([] ++ hp) H9 b := fun b hb => ⟨no9 b hb, (away8 b hb).2⟩
        rcases turn1 j k H9 w9 with ⟨stop1, nx⟩ | ⟨go1, Nx1, less1, step1⟩
        · refine thnF (T1.done (X.blk s3 H3 scope ce fp) rfl rfl rfl hc j _ s9 _ H9 (fun _ _ => False) I9 stat at9 stop1) fun r s10 ⟨hr, I10⟩ => ?_
          subst hr
          exact fin I10 l3 l4 nx
        · refine turn_once (X := X.blk s3 H3 scope ce fp) T1 hc rfl I9 stat at9 go1 pg1 pt1 step1 fun hp1 σ3 b1 H10 s10 I10 same1 z1 back1 => ?_
          have fin1 : ∀ {s' : Shared} {H' : Hp}, Inv (X.blk s3 H3 scope ce fp) (([] ++ hp) ++ hp1) σ3 H' s' → Nx1 H' →
              ∃ m, m < k ∧ ∃ j H', Inv (X.blk s3 H3 scope ce fp) ([] ++ hp) (wipe σ2 vs1) H' s' ∧ tn1 j s'.heap ∧ (∀ b ∈ fp1, H' b = none) ∧ W1 j m H' := fun {s' H'} I' nx => by
            obtain ⟨m', hm, w'⟩ := less1 H' nx
            obtain ⟨I11, at11, no11⟩ := back1 _ _ _ I'
            obtain ⟨q1, q2⟩ := wipe_back same1
            exact ⟨m', hm, j + 1, H', I11.weak q1 q2, at11, no11, w'⟩
          cases b1 with
          | false =>
            simp only [Bool.false_eq_true, if_false] at z1 ⊢
            exact fin1 I10 z1
          | true =>
            simp only [if_true] at z1 ⊢
            refine thnF (pe.run _ s10 σ3 H10 _ I10 z1) fun u s11 ⟨y, H11, I11, r11, cc, pp, ob, ey, hD, at_, az, nx⟩ => ?_
            subst ey
            exact thnF (mt_saddL (X := X.blk s3 H3 scope ce fp) _ s11 σ3 H11 (.ref D) [.str (sing cc)] (.ref D) [u] (fun _ H' => Nx1 H') I11 rfl (.cons r11 .nil) ⟨D, cc, pp, ob, rfl, rfl, hD, at_, az, nx⟩) fun _ s12 ⟨_, H12, I12, _, nx12⟩ => fin1 I12 nx12
      exact inner_start loop (T1.self X.A 0 _ _ _ at8 loop)
theorem pe_sc2L {own : List (Str × Nat)} {wi : TI} (hc : X.calm = true) (hN : X.N.Nodup) (hi : PI X tg iter wi) (ok : BlkOk X.N X.env.scope scope own) (hv : ∀ i ∈ vs1, i ∈ own.map (·.2))
    (hg : ∀ (s : Shared) (H : Hp) (C : Addr) (cl : List (Str × Addr)) (fp : List Addr), PG (X.blk s H scope (compEnvC scope cl C X.env) fp) tg g) (ht : ∀ (s : Shared) (H : Hp) (C : Addr) (cl : List (Str × Addr)) (fp : List Addr), PTs (X.blk s H scope (compEnvC scope cl C X.env) fp) ifs tt)
    (hi1 : ∀ (s : Shared) (H : Hp) (C : Addr) (cl : List (Str × Addr)) (fp : List Addr), PI (X.blk s H scope (compEnvC scope cl C X.env) fp) tg1 iter1 wi1)
    (hg1 : ∀ (s : Shared) (H : Hp) (C : Addr) (cl : List (Str × Addr)) (fp : List Addr), PG (X.blk s H scope (compEnvC scope cl C X.env) fp) tg1 g1) (ht1 : ∀ (s : Shared) (H : Hp) (C : Addr) (cl : List (Str × Addr)) (fp : List Addr), PTs (X.blk s H scope (compEnvC scope cl C X.env) fp) ifs1 tt1)
    (he : ∀ (s : Shared) (H : Hp) (C : Addr) (cl : List (Str × Addr)) (fp : List Addr), PE (X.blk s H scope (compEnvC scope cl C X.env) fp) elt te) (hs : ∀ x, foldedSetIterable iter X.env x = pure x) (hs1 : ∀ env x, foldedSetIterable iter1 env x = pure x) :
    PE X (.SetComp elt [⟨tg, iter, ifs, 0⟩, ⟨tg1, iter1, ifs1, 0⟩] scope pos) (fun σ H Q => wi σ H fun J H1 => ∀ D, H1 D = none → TwoOweL X.prog X.w g tt wi1 g1 tt1 te (own.map (·.2)) vs1 σ Q J D (upd H1 D (SetO X.w D (fun _ => false) 0))) :=
  ⟨fun pins s σ H Q I h => set_frame hc hN I hi ok hs h (loops_twoL hc hv hg ht hi1 hg1 ht1 he hs1)⟩
end
/-- what sorted of such a set holds -/
def SortP (p : Nat → Prop) (ys : List Str) : Prop := ∃ cs : List Nat, ys.Perm (cs.map sing) ∧ sortedS ys = true ∧ cs.Nodup ∧ ∀ c, c ∈ cs ↔ p c
def rSortL (P : Program) (w : World) : List V → Hp → VK → Prop := fun xs H Q => ∃ (a : Addr) (p : Nat → Prop) (o : HO), xs = [.ref a] ∧ H a = some o ∧ AtLt P w a p o ∧ AzP p ∧ ∀ ys b, SortP p ys → H b = none → Q (.ref b) (upd H b (.lst (ys.map V.str)))
abbrev tSc2L (P : Program) (w : World) (wi : TI) (g : TG) (tt : TT) (wi1 : TI) (g1 : TG) (tt1 : TT) (te : TE) (vs vs1 : List Nat) : TE := fun σ H Q => wi σ H fun J H1 => ∀ D, H1 D = none → TwoOweL P w g tt wi1 g1 tt1 te vs vs1 σ Q J D (upd H1 D (SetO w D (fun _ => false) 0))
section
variable {X : Cx}
theorem cl_sortL (hc : X.calm = true) : CallR X (.builtin "sorted") (rSortL X.prog X.w) := by
  intro pins s σ H xs us Q I r h
  obtain ⟨a, p, ob, rfl, ha, at_, az, q⟩ := h
  obtain ⟨u, rfl, ru⟩ := vals1 r
  cases ru
  refine call_sortedS (I.ok.hd hc) (lt_at I ha at_) alph_az (alph_mem az) fun s2 b out c ys cs kept gn os hb hat sa pm so nd mem => ?_
  have free : H b = none := I.hok.fresh hb
  have few : cs.length ≤ 26 := az_few nd alph_az fun d hd => alph_mem az d ((mem d).mp hd)
  have sz : (ys.map V.str).length ≤ sizeLine := by
    rw [List.length_map, pm.length_eq, List.length_map]
    exact Nat.le_trans few (by decide)
  have laid : ObjOk X.prog X.w (upd H b (.lst (ys.map V.str))) s2.heap b (.lst (ys.map V.str)) := ⟨sz, out.toList, c, vals_of_strs sa, by rw [Array.toArray_toList]; exact hat⟩
  have J : Inv X pins σ (upd H b (.lst (ys.map V.str))) s2 := I.call' (ch := []) os (Un.laid kept hb free) (I.hok.laid kept hb laid) (by rw [gn]; exact I.bare) fun _ z => nomatch z
  exact ⟨.ref b, _, J, rfl, q ys b ⟨cs, pm, so, nd, mem⟩ free⟩
theorem ks_sortSc2L {K : PySem.W.Frag} {P : Program} {w : World} (hK : X.K = K) (hP : X.prog = P) (hw : X.w = w) {i j1 j2 : Nat} {x y1 y2 : Str} {px p1 p2 pt p pos pos2 : Pos} {kt : Nat} {elt iter iter1 : Expr} {ifs1 : List Expr} {scope : Scope} {wi wi1 : TI} {tt1 : TT} {te : TE} (hc : X.calm = true) (hN : X.N.Nodup)
    (hgl : Gl X "sorted") (hmg : X.mg "sorted" = none)
    (hg : ∀ (s : Shared) (H : Hp) (C : Addr) (cl : List (Str × Addr)) (fp : List Addr), PG (X.blk s H scope (compEnvC scope cl C X.env) fp) (.Name x px) (gName i))
    (ok : blkC X.N X.env.scope scope [(x, i), (y1, j1), (y2, j2)] = true) (hi : PI X (.Name x px) iter wi)
    (hi1 : ∀ (s : Shared) (H : Hp) (C : Addr) (cl : List (Str × Addr)) (fp : List Addr), PI (X.blk s H scope (compEnvC scope cl C X.env) fp) (.Tuple [.Name y1 p1, .Name y2 p2] kt pt) iter1 wi1)
    (hg1 : ∀ (s : Shared) (H : Hp) (C : Addr) (cl : List (Str × Addr)) (fp : List Addr), PG (X.blk s H scope (compEnvC scope cl C X.env) fp) (.Tuple [.Name y1 p1, .Name y2 p2] kt pt) (gTup K 2 (gCons (gName j1) (gCons (gName j2) gNil))))
    (ht1 : ∀ (s : Shared) (H : Hp) (C : Addr) (cl : List (Str × Addr)) (fp : List Addr), PTs (X.blk s H scope (compEnvC scope cl C X.env) fp) ifs1 tt1)
    (he : ∀ (s : Shared) (H : Hp) (C : Addr) (cl : List (Str × Addr)) (fp : List Addr), PE (X.blk s H scope (compEnvC scope cl C X.env) fp) elt te)
    (hs : ∀ z, foldedSetIterable iter X.env z = pure z) (hs1 : ∀ env z, foldedSetIterable iter1 env z = pure z) :
    PE X (.Call (.Name "sorted" p) [.SetComp elt [⟨.Name x px, iter, [], 0⟩, ⟨.Tuple [.Name y1 p1, .Name y2 p2] kt pt, iter1, ifs1, 0⟩] scope pos2] [] pos)
      (tCB (rSortL P w) (tCons (tSc2L P w wi (gName i) tYes wi1 (gTup K 2 (gCons (gName j1) (gCons (gName j2) gNil))) tt1 te [i, j1, j2] [j1, j2]) tNil)) := by
  subst hK hP hw
  have e := pe_sc2L (own := [(x, i), (y1, j1), (y2, j2)]) (vs1 := [j1, j2]) (pos := pos2) hc hN hi (blkOk_by ok) (by intro k hk; exact List.mem_cons_of_mem _ hk) hg (fun _ _ _ _ _ => pts_nil) hi1 hg1 ht1 he hs hs1
  exact pe_callB (cl_sortL hc) hgl hmg bSorted (pa_cons e pa_nil (by rfl)) (by decide) (by decide) (by rfl) (by rfl)
end
section
variable {K : PySem.W.Frag} {Pr : Program} {w : World} {env : En} {wi wi1 : TI} {i j1 j2 : Nat} {vs vs1 : List Nat} {tt1 : TT} {te : TE} {P : En → List PyData → Prop}
theorem eow_sc2L {xs : List PyData} {rows : PyData → List PyData} {y1 y2 : PyData → PyData} {test : PyData → Bool} {num : PyData → Nat} {R : Nat}
    (h0 : EvI K wi env fun e1 ys => e1 = env ∧ ys = xs) (hi : i ∈ vs) (h1 : j1 ∈ vs1) (h2 : j2 ∈ vs1) (hv : ∀ k ∈ vs1, k ∈ vs) (he0 : ∀ i s, env[i]? = some (some s) → i ∉ vs)
    (he : wipeE env vs = env) (hed : ∀ d, wipeE (env.set i (some (.dat d))) vs1 = env.set i (some (.dat d)) ∧ wipeE (env.set i (some (.dat d))) vs = env)
    (hey : ∀ d a b, wipeE (((env.set i (some (.dat d))).set j1 (some (.dat a))).set j2 (some (.dat b))) vs1 = env.set i (some (.dat d)))
    (hin : ∀ d ∈ xs, EvI K wi1 (env.set i (some (.dat d))) fun e1 ys => e1 = env.set i (some (.dat d)) ∧ ys = rows d)
    (hel : ∀ d ∈ xs, ∀ y ∈ rows d, y = .tuple [y1 y, y2 y] ∧ EvB K tt1 (((env.set i (some (.dat d))).set j1 (some (.dat (y1 y)))).set j2 (some (.dat (y2 y)))) fun e b => e = (((env.set i (some (.dat d))).set j1 (some (.dat (y1 y)))).set j2 (some (.dat (y2 y)))) ∧ b = test y ∧
      (b = true → EvE K te e fun e2 v => e2 = e ∧ v = .str (sing (num y))))
    (hR : ∀ d ∈ xs, (rows d).length ≤ R) (hz : ∀ d ∈ xs, ∀ y ∈ rows d, 97 ≤ num y ∧ num y ≤ 122)
    (q : ∀ ys : List Str, SortP (fun c => ∃ d ∈ xs, ∃ y ∈ rows d, test y = true ∧ num y = c) ys → P env (ys.map .str)) :
    EvOwn K (tCB (rSortL Pr w) (tCons (tSc2L Pr w wi (gName i) tYes wi1 (gTup K 2 (gCons (gName j1) (gCons (gName j2) gNil))) tt1 te vs vs1) tNil)) env P := fun B σ G H Q I qq => by
  refine h0 B σ G H _ I fun J G1 H1 e1 ys ⟨p1, p2⟩ x1 I1 j D nD => ?_
  subst p1 p2
  have gD : G1 D = none := I1.exH.fresh nD
  obtain ⟨bD, sD⟩ := I1.fresh nD
  have mD : ¬ B.mu D := fun m => by obtain ⟨o, ho⟩ := I1.mus D m; rw [bD] at ho; cases ho
  have gB : B.G D = none := I1.exG.fresh gD
  have start : ∃ o, AtLt Pr w D (fun c => c ∈ ([] : List Nat)) o ∧ EnvOk K ⟨upd B.H D o, B.G, B.mu⟩ G1 (upd H1 D (SetO w D (fun _ => false) 0)) (wipe σ vs) e1 := by
    refine ⟨SetO w D (fun _ => false) 0, Or.inr (And.intro (fun c h => (by cases h)) ⟨_, rfl⟩), ?_⟩
    have := (I1.more (o := SetO w D (fun _ => false) 0) nD).wiped vs
    rw [he] at this
    exact EnvOk.hide this upd_same gD sD mD
  -- what is in the set
  let Mem := fun (n : Nat) (m : List PyData) (L : List Nat) => ∀ k, k ∈ L ↔ (∃ d ∈ ys.take n, ∃ y ∈ rows d, test y = true ∧ num y = k) ∨ ∃ y ∈ m, test y = true ∧ num y = k
  refine ⟨fun n m H2 => m = ys.length - n ∧ n ≤ ys.length ∧ ∃ (G2 : Hp) (L : List Nat), Ex G1 G2 ∧ (∃ o, AtLt Pr w D (fun c => c ∈ L) o ∧ EnvOk K ⟨upd B.H D o, B.G, B.mu⟩ G2 H2 (wipe σ vs) e1) ∧ Mem n [] L ∧ AzP (fun c => c ∈ L),
    ⟨_, rfl, Nat.zero_le _, G1, [], Ex.refl _, start, fun k => by simp, fun c h => nomatch h⟩, ?_⟩
  rintro n m H2 ⟨rfl, hn, G2, L, x2, ⟨ob, at2, I2⟩, mem, az⟩
  obtain ⟨jg, js⟩ := j G2 H2 x2 I2.exH
  by_cases hlt : n < ys.length
  · obtain ⟨go, yl⟩ := jg n ys[n] (List.getElem?_eq_getElem hlt)
    have hd : ys[n] ∈ ys := List.getElem_mem hlt
    refine .inr ⟨go, fun H3 => ∃ (G2 : Hp) (L : List Nat), Ex G1 G2 ∧ (∃ o, AtLt Pr w D (fun c => c ∈ L) o ∧ EnvOk K ⟨upd B.H D o, B.G, B.mu⟩ G2 H3 (wipe σ vs) e1) ∧ Mem (n + 1) [] L ∧ AzP (fun c => c ∈ L),
      fun H3 s3 => ⟨ys.length - (n + 1), by omega, rfl, hlt, s3⟩, fun x H3 y => ?_⟩
    obtain ⟨e, r⟩ := yl x H3 y
    subst e
    generalize hdd : ys[n] = d at r hd
    have back : wipe ((wipe σ vs).set i (some x)) vs = wipe σ vs := by rw [wipe_set hi, wipe_sub fun _ z => z]
    show wipe ((wipe σ vs).set i (some x)) vs = wipe σ vs ∧ _
    refine ⟨back, ?_⟩
    delta tYes
    refine iteT ?_
    have I3 : EnvOk K ⟨upd B.H D ob, B.G, B.mu⟩ G2 H3 ((wipe σ vs).set i (some x)) (e1.set i (some (.dat d))) := I2.setD r
    generalize hσ2 : (wipe σ vs).set i (some x) = σ2 at back I3 ⊢
    refine hin d hd _ _ G2 H3 _ I3 fun J1 G4 H4 e4 zs ⟨q1, q2⟩ x4 I4 k1 => ?_
    subst q1 q2
    have I4w := I4.wiped vs1
    rw [(hed d).1] at I4w
    refine ⟨fun l k H5 => k = (rows d).length - l ∧ l ≤ (rows d).length ∧ ∃ (G5 : Hp) (L : List Nat), Ex G4 G5 ∧ (∃ o, AtLt Pr w D (fun c => c ∈ L) o ∧ EnvOk K ⟨upd B.H D o, B.G, B.mu⟩ G5 H5 (wipe σ2 vs1) (e1.set i (some (.dat d)))) ∧ Mem n ((rows d).take l) L ∧ AzP (fun c => c ∈ L),
      ⟨_, rfl, Nat.zero_le _, G4, L, Ex.refl _, ⟨ob, at2, I4w⟩, mem, az⟩, ?_⟩
    rintro l k H5 ⟨rfl, hl, G5, L5, x5, ⟨ob5, at5, I5⟩, mem5, az5⟩
    obtain ⟨jg1, js1⟩ := k1 G5 H5 x5 I5.exH
    by_cases hlt1 : l < (rows d).length
    · obtain ⟨go1, yl1⟩ := jg1 l (rows d)[l] (List.getElem?_eq_getElem hlt1)
      have hy : (rows d)[l] ∈ rows d := List.getElem_mem hlt1
      refine .inr ⟨go1, fun H6 => ∃ (G5 : Hp) (L : List Nat), Ex G4 G5 ∧ (∃ o, AtLt Pr w D (fun c => c ∈ L) o ∧ EnvOk K ⟨upd B.H D o, B.G, B.mu⟩ G5 H6 (wipe σ2 vs1) (e1.set i (some (.dat d)))) ∧ Mem n ((rows d).take (l + 1)) L ∧ AzP (fun c => c ∈ L),
        fun H6 s6 => ⟨(rows d).length - (l + 1), by omega, rfl, hlt1, s6⟩, fun x' H6 y' => ?_⟩
      obtain ⟨e', r'⟩ := yl1 x' H6 y'
      subst e'
      have tk : (rows d).take (l + 1) = (rows d).take l ++ [(rows d)[l]] := (List.take_append_getElem hlt1).symm
      rw [tk]
      generalize (rows d)[l] = yd at r' hy
      obtain ⟨hyt, hel1⟩ := hel d hd yd hy
      rw [hyt] at r'
      cases r' with
      | @tup b vsx _ hb' rb =>
        cases rb with
        | cons ra rb =>
          cases rb with
          | @cons v2 _ _ _ rb rn =>
            cases rn
            rename_i v1
            have I6 := (I5.setD (i := j1) ra).setD (i := j2) rb
            refine ⟨_, _, rfl, SqT.of (I5.exH _ _ hb'), rfl, v1, [v2], rfl, v2, [], rfl, rfl, ?_⟩
            have bk1 : wipe (((wipe σ2 vs1).set j1 (some v1)).set j2 (some v2)) vs1 = wipe σ2 vs1 := by rw [wipe_set h2, wipe_set h1, wipe_sub fun _ z => z]
            refine ⟨bk1, ?_⟩
            refine hel1 _ _ G5 H6 _ I6 fun bb G7 H7 e7 ⟨s1, s2, s3⟩ x7 I7 => ?_
            subst s1
            cases bb with
            | false =>
              refine iteF ⟨G7, L5, x5.trans x7, ⟨ob5, at5, ?_⟩, fun k => ?_, az5⟩
              · have := I7.wiped vs1
                rw [bk1, hey d] at this
                exact this
              · rw [mem5 k]
                refine or_congr Iff.rfl ⟨fun ⟨y, a, b⟩ => ⟨y, List.mem_append_left _ a, b⟩, fun ⟨y, a, b⟩ => ?_⟩
                rcases List.mem_append.mp a with a | a
                · exact ⟨y, a, b⟩
                · obtain rfl := List.mem_singleton.mp a
                  rw [← s2] at b
                  exact Bool.noConfusion b.1
            | true =>
              refine iteT (s3 rfl _ _ G7 H7 _ I7 fun vv G8 H8 e8 dd ⟨t1, t2⟩ x8 I8 r8 => ?_)
              subst t1 t2
              cases r8
              have hD8 : H8 D = some ob5 := I8.keep D _ upd_same mD
              have fn : (fun c => c ∈ L5 ∨ c = num yd) = fun c => c ∈ L5 ++ [num yd] := by
                funext c
                rw [List.mem_append, List.mem_singleton]
              refine ⟨num yd, _, ob5, rfl, hD8, at5, az5, G8, L5 ++ [num yd], (x5.trans x7).trans x8, ⟨_, .inl rfl, ?_⟩, fun k => ?_, ?_⟩
              · rw [← fn]
                have := (I8.rehide (o' := SetLt Pr w D (fun c => c ∈ L5 ∨ c = num yd)) bD mD gB).wiped vs1
                rw [bk1, hey d] at this
                exact this
              · rw [List.mem_append, List.mem_singleton, mem5 k, or_assoc]
                refine or_congr Iff.rfl ⟨fun z => ?_, fun ⟨y, a, b⟩ => ?_⟩
                · rcases z with ⟨y, a, b⟩ | z
                  · exact ⟨y, List.mem_append_left _ a, b⟩
                  · exact ⟨yd, List.mem_append_right _ List.mem_cons_self, s2.symm, z.symm⟩
                · rcases List.mem_append.mp a with a | a
                  · exact .inl ⟨y, a, b⟩
                  · obtain rfl := List.mem_singleton.mp a
                    exact .inr b.2.symm
              · intro c hc
                rcases List.mem_append.mp hc with hc | hc
                · exact az5 c hc
                · obtain rfl := List.mem_singleton.mp hc
                  exact hz d hd yd hy
    · have el : l = (rows d).length := by omega
      subst el
      refine .inl ⟨js1, G5, L5, (x2.trans x4).trans x5, ⟨ob5, at5, ?_⟩, fun k => ?_, az5⟩
      · have := I5.wiped vs
        rw [(hed d).2, wipe_sub hv, back] at this
        exact this
      · rw [mem5 k, List.take_length]
        have tk : ys.take (n + 1) = ys.take n ++ [d] := by rw [← hdd]; exact (List.take_append_getElem hlt).symm
        rw [tk]
        constructor
        · rintro (⟨d', a, b⟩ | b)
          · exact .inl ⟨d', List.mem_append_left _ a, b⟩
          · exact .inl ⟨d, List.mem_append_right _ List.mem_cons_self, b⟩
        · rintro (⟨d', a, b⟩ | ⟨y, a, _⟩)
          · rcases List.mem_append.mp a with a | a
            · exact .inl ⟨d', a, b⟩
            · obtain rfl := List.mem_singleton.mp a
              exact .inr b
          · exact nomatch a
  · have e : n = ys.length := by omega
    subst e
    refine .inl ⟨js, ?_⟩
    obtain ⟨I6, hD5, gD5, sD5⟩ := I2.unhide bD mD gB
    have I7 := I6.unwiped he0
    have pe : (fun c => c ∈ L) = fun c => ∃ d ∈ ys, ∃ y ∈ rows d, test y = true ∧ num y = c := by
      funext c
      refine propext ?_
      rw [mem c, List.take_length]
      exact ⟨fun z => z.elim id fun z => (by obtain ⟨_, a, _⟩ := z; exact nomatch a), fun z => Or.inl z⟩
    refine ⟨D, fun c => c ∈ L, ob, rfl, hD5, at2, az, fun zs b so free => ?_⟩
    rw [pe] at so
    obtain ⟨bp, sp⟩ := I7.fresh free
    exact qq b G2 _ _ _ (q zs so) (x1.trans x2) (I7.more free) (I7.exH.fresh free) ⟨_, upd_same, strs_dd _ zs⟩ bp sp
end
end FD

set_option Elab.async false
set_option linter.all false
set_option maxRecDepth 100000
set_option maxHeartbeats 4000000
namespace FD
open PySem PySem.Spec PyProof.Rows L2
/-! ### isinstance(x, (a, b)); x or y of texts -/
theorem km_isi2 {X : Cx} {K : PySem.W.Frag} (m : KMark K) (hK : X.K = K) {n n2 : String} {nm nm2 : Str} {e : Expr} {te : TE} {p p2 p3 pt pos : Pos} {kt : Nat} (bi : Bi X.mg) (hm : X.mg nm = none) (hv : bootBuiltins nm = some (.type n)) (hm2 : X.mg nm2 = none) (hv2 : bootBuiltins nm2 = some (.type n2))
    (hg : Gl X "isinstance") (hg2 : Gl X nm) (hg3 : Gl X nm2) (he : PE X e te) (h1 : starEach [e, .Tuple [.Name nm p2, .Name nm2 p3] kt pt] X.env = (false, eval e X.env) :: starEach [.Tuple [.Name nm p2, .Name nm2 p3] kt pt] X.env)
    (h2 : starEach [.Tuple [.Name nm p2, .Name nm2 p3] kt pt] X.env = (false, eval (.Tuple [.Name nm p2, .Name nm2 p3] kt pt) X.env) :: starEach [] X.env)
    (h3 : starEach [.Name nm p2, .Name nm2 p3] X.env = (false, eval (.Name nm p2) X.env) :: starEach [.Name nm2 p3] X.env) (h4 : starEach [.Name nm2 p3] X.env = (false, eval (.Name nm2 p3) X.env) :: starEach [] X.env)
    (hpl : (backTo pos (starEach [.Tuple [.Name nm p2, .Name nm2 p3] kt pt] X.env)).any (·.1) = false) (hn : nm ≠ "__name__") (hd : (nm == ("__debug__" : Str)) = false) (hn2 : nm2 ≠ "__name__") (hd2 : (nm2 == ("__debug__" : Str)) = false) :
    PE X (.Call (.Name "isinstance" p) [e, .Tuple [.Name nm p2, .Name nm2 p3] kt pt] [] pos) (tCB (rIsiT K) (tCons te (tCons (tTup (tCons (tC (.ty n)) (tCons (tC (.ty n2)) tNil))) tNil))) := by
  subst hK
  exact pe_callB (x := "isinstance") call_isiT hg bi.isi (by decide +kernel) (pa_cons he (pa_cons (pe_tup (pa_cons (pe_bltn (v := .ty n) hg2 hm hv rfl hn hd) (pa_cons (pe_bltn (v := .ty n2) hg3 hm2 hv2 rfl hn2 hd2) pa_nil h4) h3)) pa_nil h2) h1) (by decide) (by decide) h1 hpl
theorem ev_isi2 {K : PySem.W.Frag} {env : En} {te : TE} {n n2 : String} {P : En → PyData → Prop} (hn : n = "int" ∨ n = "bool" ∨ n = "str" ∨ n = "tuple" ∨ n = "list") (hn2 : n2 = "int" ∨ n2 = "bool" ∨ n2 = "str" ∨ n2 = "tuple" ∨ n2 = "list")
    (h : EvE K te env fun e1 d => P e1 (.bool (isTy n d || isTy n2 d))) : EvE K (tCB (rIsiT K) (tCons te (tCons (tTup (tCons (tC (.ty n)) (tCons (tC (.ty n2)) tNil))) tNil))) env P := fun B σ G H Q I q =>
  h B σ G H _ I fun x G1 H1 e1 d p1 x1 I1 r1 => by
    refine ⟨(by decide : (2 : Nat) ≤ sizeLine), fun t nt => ?_⟩
    have I2 := I1.new (o := .tup [.ty n, .ty n2]) nt
    have x2 : Ex G1 (upd G1 t (.tup [.ty n, .ty n2])) := Ex.new (I1.exH.fresh nt)
    refine ⟨x, t, [.ty n, .ty n2], _, [.type n, .type n2], isTy n d || isTy n2 d, rfl, upd_same, .cons (.ty n) (.cons (.ty n2) .nil), (r1.ex x2).tyx I2.exH, ?_, q _ _ _ e1 _ p1 (x1.trans x2) I2 (.bl _)⟩
    refine kitAny_cons (kit_is hn) (fun z => ?_) fun z => by rw [z]; rfl
    rw [z, Bool.false_or]
    exact kitAny_cons (kit_is hn2) (fun z2 => by rw [z2]; exact kitAny_nil) fun z2 => z2
def tOrS (ta tb : TE) : TE := fun σ H Q => ta σ H fun x H1 => ∃ z : Str, x = .str z ∧ z.length ≤ sizeLine ∧ if z.length ≠ 0 then Q (.str z) H1 else tb σ H1 Q
theorem pe_orS {X : Cx} {a b : Expr} {rest : List Expr} {ta tb : TE} {pos : Pos} (ha : PE X a ta) (hb : PE X (.BoolOp .Or (b :: rest) pos) tb) : PE X (.BoolOp .Or (a :: b :: rest) pos) (tOrS ta tb) := by
  refine ⟨fun pins s σ H Q I h => ?_⟩
  refine BoolOp_or (thn (ha.run pins s σ H _ I h) fun v s1 ⟨x, H1, I1, r1, q1⟩ => ?_)
  obtain ⟨z, rfl, few, q1⟩ := q1
  obtain ⟨t, rfl⟩ := r1
  have small : ¬ (z.length : Int) ≥ 2 ^ 63 := by
    have := few
    rw [sizeLine_eq] at this
    omega
  refine PySem.P.truthy_str small ?_
  by_cases e : z.length = 0
  · rw [e] at q1 ⊢
    exact hb.run pins _ σ H1 Q (I1.tok _) (by simpa using q1)
  · have ne : ((z.length : Int) != 0) = true := by simp [e]
    rw [ne]
    rw [if_pos e] at q1
    exact ⟨.str z, H1, I1.tok _, ⟨_, rfl⟩, q1⟩
theorem ev_orS {K : PySem.W.Frag} {env : En} {ta tb : TE} {P : En → PyData → Prop} (h : EvE K ta env fun e1 d => ∃ z : Str, d = .str z ∧ z.length ≤ sizeLine ∧ (z.length ≠ 0 → P e1 (.str z)) ∧ (z.length = 0 → EvE K tb e1 P)) : EvE K (tOrS ta tb) env P := fun B σ G H Q I q =>
  h B σ G H _ I fun x G1 H1 e1 d1 p1 x1 I1 r1 => by
    obtain ⟨z, rfl, few, h1, h2⟩ := p1
    cases r1
    refine ⟨z, rfl, few, ?_⟩
    by_cases e : z.length = 0
    · rw [if_neg (fun w => w e)]
      exact h2 e B σ G1 H1 Q I1 fun v G2 H2 e2 d2 p2 x2 I2 r2 => q v G2 H2 e2 d2 p2 (x1.trans x2) I2 r2
    · rw [if_pos e]
      exact q _ G1 H1 e1 _ (h1 e) x1 I1 (.str z)
end FD

set_option Elab.async false
set_option linter.all false
set_option maxRecDepth 100000
set_option maxHeartbeats 4000000
namespace FD
open PySem PySem.Spec PyProof.Rows L2
/-! ### comprehensions with the target a, (b, c) -/
section
variable {X : Cx} {K : PySem.W.Frag}
theorem ks_lcN (hK : X.K = K) {i j l : Nat} {y0 y1 y2 : Str} {p0 p1 p2 pt pu pos : Pos} {kt ku : Nat} {elt iter : Expr} {ifs : List Expr} {scope : Scope} {wi : TI} {tt : TT} {te : TE} (hc : X.calm = true) (hN : X.N.Nodup)
    (hg : ∀ (s : Shared) (H : Hp) (C : Addr) (cl : List (Str × Addr)) (fp : List Addr), PG (X.blk s H scope (compEnvC scope cl C X.env) fp) (.Tuple [.Name y0 p0, .Tuple [.Name y1 p1, .Name y2 p2] ku pu] kt pt) (gTup K 2 (gCons (gName i) (gCons (gTup K 2 (gCons (gName j) (gCons (gName l) gNil))) gNil))))
    (ok : blkC X.N X.env.scope scope [(y0, i), (y1, j), (y2, l)] = true) (hi : PI X (.Tuple [.Name y0 p0, .Tuple [.Name y1 p1, .Name y2 p2] ku pu] kt pt) iter wi)
    (ht : ∀ (s : Shared) (H : Hp) (C : Addr) (cl : List (Str × Addr)) (fp : List Addr), PTs (X.blk s H scope (compEnvC scope cl C X.env) fp) ifs tt)
    (he : ∀ (s : Shared) (H : Hp) (C : Addr) (cl : List (Str × Addr)) (fp : List Addr), PE (X.blk s H scope (compEnvC scope cl C X.env) fp) elt te)
    (hs : ∀ z, foldedSetIterable iter X.env z = pure z) :
    PE X (.ListComp elt [⟨.Tuple [.Name y0 p0, .Tuple [.Name y1 p1, .Name y2 p2] ku pu] kt pt, iter, ifs, 0⟩] scope pos) (tLc wi (gTup K 2 (gCons (gName i) (gCons (gTup K 2 (gCons (gName j) (gCons (gName l) gNil))) gNil))) tt te [i, j, l]) :=
  pe_lc (own := [(y0, i), (y1, j), (y2, l)]) hc hN hi (blkOk_by ok) hg ht he hs
theorem ks_slcN (hK : X.K = K) {N : List Str} {i j l o : Nat} {y y0 y1 y2 : Str} {py p0 p1 p2 pt pu pos spos : Pos} {kt ku : Nat} {elt iter : Expr} {ifs : List Expr} {scope : Scope} {wi : TI} {tt : TT} {te : TE} (hc : X.calm = true) (hN : X.N.Nodup) (hl : N[o]? = some y) (hX : X.N = N)
    (hy : X.env.scope.names.lookup y = some .local) (hf : X.env.scope.kind = .function) (hli : (py.line == pos.line) = true) (ha : (scope.names.any fun (n, k) => n == y && (k == .local || k == .cell)) = false)
    (hg : ∀ (s : Shared) (H : Hp) (C : Addr) (cl : List (Str × Addr)) (fp : List Addr), PG (X.blk s H scope (compEnvC scope cl C X.env) fp) (.Tuple [.Name y0 p0, .Tuple [.Name y1 p1, .Name y2 p2] ku pu] kt pt) (gTup K 2 (gCons (gName i) (gCons (gTup K 2 (gCons (gName j) (gCons (gName l) gNil))) gNil))))
    (ok : blkC X.N X.env.scope scope [(y0, i), (y1, j), (y2, l)] = true) (hi : PI X (.Tuple [.Name y0 p0, .Tuple [.Name y1 p1, .Name y2 p2] ku pu] kt pt) iter wi)
    (ht : ∀ (s : Shared) (H : Hp) (C : Addr) (cl : List (Str × Addr)) (fp : List Addr), PTs (X.blk s H scope (compEnvC scope cl C X.env) fp) ifs tt)
    (he : ∀ (s : Shared) (H : Hp) (C : Addr) (cl : List (Str × Addr)) (fp : List Addr), PE (X.blk s H scope (compEnvC scope cl C X.env) fp) elt te)
    (hs : ∀ z, foldedSetIterable iter X.env z = pure z) :
    PS X (.Assign [.Name y py] (.ListComp elt [⟨.Tuple [.Name y0 p0, .Tuple [.Name y1 p1, .Name y2 p2] ku pu] kt pt, iter, ifs, 0⟩] scope pos) spos) (tAsg (tLc wi (gTup K 2 (gCons (gName i) (gCons (gTup K 2 (gCons (gName j) (gCons (gName l) gNil))) gNil))) tt te [i, j, l]) (gName o)) :=
  ps_setLc (own := [(y0, i), (y1, j), (y2, l)]) hc hN (by rw [hX]; exact hl) hy (sw_true hf hy hli ha) hi (blkOk_by ok) hg ht he hs
theorem ks_sortSetI {w : World} (hK : X.K = K) (hw : X.w = w) {e : Expr} {p p2 pos pos2 : Pos} {te : TE} (hc : X.calm = true) (hg : Gl X "sorted") (hm : X.mg "sorted" = none) (hg2 : Gl X "set") (hm2 : X.mg "set" = none) (he : PE X e te)
    (h1 : starEach [e] X.env = (false, eval e X.env) :: starEach [] X.env) (h2 : (backTo pos2 (starEach [] X.env)).any (·.1) = false) (h3 : (backTo pos (starEach [] X.env)).any (·.1) = false) :
    PE X (.Call (.Name "sorted" p) [.Call (.Name "set" p2) [e] [] pos2] [] pos) (tCB (rSortedSet w) (tCons (tCB (rSetI K w) (tCons te tNil)) tNil)) := by
  subst hK hw
  exact pe_callB (cr_sortedSet hc) hg hm bSorted (pa_cons (pe_callTy (cr_setI hc) hg2 hm2 bSet (pa_cons he pa_nil h1) (by decide) (by decide) h1 h2) pa_nil (by rfl)) (by decide) (by decide) (by rfl) h3
end
theorem eow_sortSetI {K : PySem.W.Frag} {w : World} {env : En} {ta : TE} {P : En → List PyData → Prop} (h : EvE K ta env fun e1 d => ∃ ns : List Int, d = .list (ns.map .int) ∧ ns.length < 60 ∧ ∀ ks : List Int, ks.Pairwise (· < ·) → (∀ k, k ∈ ks ↔ k ∈ ns) → P e1 (ks.map .int)) :
    EvOwn K (tCB (rSortedSet w) (tCons (tCB (rSetI K w) (tCons ta tNil)) tNil)) env P := fun B σ G H Q I q =>
  h B σ G H _ I fun x G1 H1 e1 d1 p1 x1 I1 r1 => by
    obtain ⟨ns, rfl, hn, p1⟩ := p1
    cases r1 with
    | lst h1 r1 =>
      have ex := dd_ints r1
      subst ex
      refine ⟨_, ns, rfl, .inl (SqL.of (I1.exH _ _ h1)), by omega, fun p c np lc => ?_⟩
      refine ⟨p, _, c, rfl, upd_same, by omega, fun ks b ord mem ln nb => ?_⟩
      have I2 := I1.more (o := SetO w p (fun j => decide (j ∈ ns)) c) np
      obtain ⟨bp, sp⟩ := I2.fresh nb
      exact q b G1 _ _ _ (p1 ks ord fun k => (mem k).trans decide_eq_true_iff) x1 (I2.more nb) (I2.exH.fresh nb) ⟨_, upd_same, ints_dd _ ks⟩ bp sp
end FD

set_option Elab.async false
set_option linter.all false
set_option maxRecDepth 100000
set_option maxHeartbeats 4000000
namespace FD
open PySem PySem.Spec PyProof.Rows L2
/-! ### an __init__ of an exception's class that says super().__init__(..) -/
/-- the context of such an __init__ -/
def cxI (P : Program) (w : World) (K : PySem.W.Frag) (mg : Str → Option Value) (base : Heap) (N : List Str) (env : PySem.Env) (A : Around) (outer : List PySem.Env) (s : Shared) (H : Hp) (xe : Value → Shared → Prop) : Cx where
  prog := P
  w := w
  K := K
  mg := mg
  base := base
  A := A.deeper env
  N := N
  s_0 := s
  H_0 := H
  env := env
  outer := outer
  stack := env :: outer
  ex := []
  calm := true
  fn := fun _ => false
  pn := []
  xe := xe
/-- what the class and its __init__ are -/
structure SupC (P : Program) (K : PySem.W.Frag) (C cc cda f : Addr) (body : List Stmt) (name qual : Str) (params : Arguments) (scope : Scope) : Prop where
  o : OexC K C
  v : PySem.W.subIn K (.ref C) (.type "ValueError") = some true
  s : PySem.W.ks_superIn K C C "__init__" = some (some (.builtin "ValueError.__init__"))
  m : PySem.W.mroIn K C (.ref C) = some true
  op : PySem.W.nsIn K PySem.cStatics "thirdparty.any" = some none
  cl : ∃ ccl cld csl, K.lookup cc = some ⟨ccl, cld, .cell (some (.ref C)), csl⟩
  cd : ∃ ccl cdd vs ccs file tf, K.lookup cda = some ⟨ccl, cdd, .fields vs, ccs⟩ ∧ vs[2]? = some (.str file tf) ∧ ((P.main.file : Str) == file) = true
  fn : ∃ oc od dV kV doc pm an ct osl, K.lookup f = some ⟨oc, od, .func (PySem.W.fnX name qual params body scope [("__class__", cc)] dV kV doc pm an (.ref cda) ct), osl⟩
  code : PySem.W.codeIn K (.ref cda) qual = true
  top : (P.main.scope.names.lookup ("super" : Str)).isSome = false
  nosup : PySem.W.nsIn K mainGlobals "super" = some none

theorem callWith_sup {M : Model} {A : Around} {E : Value → Shared → Prop} {s : Shared} {u x : Addr} {i : String} {pos : Pos} {env : PySem.Env} {e : Expr} {rest : List Expr} {Q : Value → Shared → Prop}
    (he : starEach (e :: rest) env = (false, eval e env) :: starEach rest env) (hplain : (backTo pos (starEach rest env)).any (·.1) = false)
    (h : wpAny M A (spliced (backTo pos (starEach (e :: rest) env))) (fun vs s₁ => PySem.W.KxsAt i u x s₁.heap ∧ wpAny M A (call (.ref u) vs) Q E s₁) E s) :
    wpAny M A (callWith pos (.ref u) [] (backTo pos (starEach (e :: rest) env)) []) Q E s := by
  rw [he] at h ⊢
  refine PySem.W.kxs_callWith (i := i) (x := x) (by show (false || (backTo pos (starEach rest env)).any (·.1)) = false; rw [hplain]; rfl) ?_
  exact PySem.Calls.evalArgs_plain h
/-- self, the exception without a dict; line, a number: behind the call it has a dict with the one field line -/
def spSup (C : Addr) : Sp := fun vs H Q _ => ∃ (a : Addr) (n : Int), vs = [.ref a, .int n] ∧ n.natAbs.log2 < 1000 ∧ H a = some (exo a C none) ∧
  ∀ dx, H dx = none → dx ≠ a → Q .non (upd (upd H dx (exd dx [(("line" : Str), .int n)])) a (exo a C (some dx)))
abbrev nSup : List Str := ["self", "line"]
section
variable {P : Program} {w : World} {K : PySem.W.Frag} {mg : Str → Option Value} {base : Heap} {C cc cda f : Addr} {name qual : Str} {params : Arguments} {scope : Scope} {e1 : Expr} {p0 p1 p2 p3 p4 p5 p6 p7 p8 : Pos}
abbrev bodyS (e1 : Expr) (p0 p1 p2 p3 p4 p5 p6 p7 p8 : Pos) : List Stmt :=
  [.Expr (.Call (.Attribute (.Call (.Name "super" p0) [] [] p1) "__init__" p2) [e1] [] p3) p4, .Assign [.Attribute (.Name "self" p5) "line" p6] (.Name "line" p7) p8]
theorem fn_sup (S : SupC P K C cc cda f (bodyS e1 p0 p1 p2 p3 p4 p5 p6 p7 p8) name qual params scope) (hms : mg "super" = none) {ar1 ar2 : Arg} (hpar : (params.posonlyargs ++ params.args) = [ar1, ar2]) (ha1 : ar1.arg = "self")
    (hk : scope.kind = .function) (hco : scope.isCoroutine = false) (hgen : scope.isGenerator = false)
    (hself : scope.names.lookup ("self" : Str) = some .local) (hline : scope.names.lookup ("line" : Str) = some .local) (hks : scope.names.lookup ("super" : Str) = some .globalImplicit) (hkc : scope.names.lookup ("__class__" : Str) = some .free)
    (hone : ∀ x ∈ scope.names, x.2 = NameKind.cell ∨ x.2 = NameKind.free → x = ((("__class__" : Str)), NameKind.free)) (hno : PySem.W.findIn K (.ref C) "line" = some none) {te : TE}
    (hpe : ∀ X : Cx, X.env.scope = scope → X.N = nSup → PE X e1 te) (hte : ∀ (n : Int) (v : V) (H : Hp) (Q : VK), n.natAbs.log2 < 1000 → (∀ y, Q (.str y) H) → te [some v, some (.int n)] H Q)
    (hst : ∀ env : PySem.Env, env.scope = scope → starEach [e1] env = (false, eval e1 env) :: starEach [] env)
    (hev : ∀ env : PySem.Env, env.scope = scope → ∃ pl, eval (.Call (.Attribute (.Call (.Name "super" p0) [] [] p1) "__init__" p2) [e1] [] p3) env = (do
      let ov ← attributeBase (.Call (.Name "super" p0) [] [] p1) "__init__" env (eval (.Call (.Name "super" p0) [] [] p1) env)
      standAt p2.atName
      let (f, first) ← holding [ov] (getMethod ov "__init__" pl)
      callWith p3 f first (backTo p3 (starEach [e1] env)) []))
    (hex : ∀ env : PySem.Env, env.scope = scope → swapsWith (.Name "line" p7) (some (.Attribute (.Name "self" p5) "line" p6)) p8.line env = pure false)
    : ∃ oc od dV kV doc pm an ct osl, K.lookup f = some ⟨oc, od, .func (PySem.W.fnX name qual params (bodyS e1 p0 p1 p2 p3 p4 p5 p6 p7 p8) scope [("__class__", cc)] dV kV doc pm an (.ref cda) ct), osl⟩ ∧
      ∀ CX : CXT, FnOk P w K mg base CX 1 f (PySem.W.fnX name qual params (bodyS e1 p0 p1 p2 p3 p4 p5 p6 p7 p8) scope [("__class__", cc)] dV kV doc pm an (.ref cda) ct) nSup (spSup C) := by
  obtain ⟨oc, od, dV, kV, doc, pm, an, ct, osl, lk⟩ := S.fn
  refine ⟨oc, od, dV, kV, doc, pm, an, ct, osl, lk, fun CX => ⟨fun vs H Q E ⟨a, n, e, _⟩ => by rw [e]; rfl, fun A outer s H args us vs Q E room e0 bd rel hsp => ?_⟩⟩
  obtain ⟨a, n, rfl, hn, ha, hq⟩ := hsp
  have kin : K.In s.heap := e0.mod.kin.keeps fun b o z => (e0.bs b o z).1
  have nl : s.heap.NoLimit := e0.mod.nolimit.keeps fun b o z => (e0.bs b o z).1
  obtain ⟨ua, un, rfl, ra, rn⟩ : ∃ ua un, us = [ua, un] ∧ RelV (.ref a) ua ∧ RelV (.int n) un := by
    cases rel with
    | cons r1 r2 => cases r2 with
      | cons r2 r3 => cases r3; exact ⟨_, _, rfl, r1, r2⟩
  obtain rfl : ua = Value.ref a := ra
  have loc : ∀ x ∈ nSup.zip [Value.ref a, un], scope.names.lookup x.1 = some .local := by
    intro x hx
    rcases List.mem_cons.mp hx with rfl | hx
    · exact hself
    · rcases List.mem_cons.mp hx with rfl | hx
      · exact hline
      · cases hx
  refine PySem.ks_codeAny_call_defAt (fd := PySem.W.fnX name qual params _ scope [("__class__", cc)] dV kV doc pm an (.ref cda) ct) room.depth (kin _ _ lk) rfl nl (PySem.W.codeRec_of kin S.code) rfl bd
    (fun x hx hc => by have := hone x hx (.inl hc); rw [this] at hc; cases hc) loc (fun h₀ hns hkk => ?_) hco hgen hk
  let env : PySem.Env := PySem.W.envX qual scope s.heap.objs.size f (.ref cda) [("__class__", cc)]
  let X : Cx := cxI P w K mg base nSup env A outer s H (fun e s' => wpAny (model P w) (A.deeper env) (leaving env e) (fun _ s'' => CX outer H s E e s'') (fun e' s'' => CX outer H s E e' s'') s')
  let s1 : Shared := { s with heap := h₀, toks := s.toks + (nSup.zip [Value.ref a, un]).length }
  obtain ⟨ccl, cld, csl, lcc⟩ := S.cl
  have onlyc : ∀ x c, env.cells.lookup x = some c → x = ("__class__" : Str) ∧ c = cc := fun x c e => by
    have e' : List.lookup x [(("__class__" : Str), cc)] = some c := e
    rw [List.lookup_cons] at e'
    by_cases hx : x = "__class__"
    · subst hx
      rw [beq_self_eq_true] at e'
      exact ⟨rfl, (Option.some.inj e').symm⟩
    · rw [show (x == ("__class__" : Str)) = false from by simpa using hx] at e'
      cases e'
  have ccb : ∃ o, base.get? cc = some o := ⟨_, e0.mod.kin _ _ lcc⟩
  have I : Inv X [] (start nSup [.ref a, .int n]) H s1 := by
    refine ⟨⟨e0.mod, hk, rfl, rfl, Nat.le_refl _, fun x y c h1 h2 => by rw [(onlyc x c h1).1, (onlyc y c h2).1], fun x hx => ?_, fun x c hx => (Bool.noConfusion hx), fun _ => room.hd, Around.frames_deeper e0.frames, .inr ⟨rfl, rfl⟩, fun b z => absurd (show b ∈ ([] : List Addr) from z) (by simp), e0.bs, e0.bsz,
      fun b _ _ z => absurd (show b ∈ ([] : List Addr) from z) (by simp), fun b z => absurd (show b ∈ ([] : List Addr) from z) (by simp), e0.funs, e0.frf⟩,
      rfl, e0.bare, Un.kept hkk, ⟨_, hns, fun i x v h1 h2 h3 => ?_⟩, fun x c h => ?_, e0.hok.fresh (Nat.le_refl _), fun x c h => ?_, fun p hp => absurd (show p ∈ ([] : List (Addr × Obj)) from hp) (by simp), e0.hok.kept hkk, rfl⟩
    · have hx' : scope.names.lookup x = some .cell ∨ scope.names.lookup x = some .free := hx
      refine ⟨cc, ?_⟩
      have e : x = ("__class__" : Str) := by
        rcases hx' with q | q
        · exact congrArg Prod.fst (hone (x, _) (PySem.mem_of_lookup q) (.inl rfl))
        · exact congrArg Prod.fst (hone (x, _) (PySem.mem_of_lookup q) (.inr rfl))
      subst e
      show List.lookup _ [(("__class__" : Str), cc)] = some cc
      rw [List.lookup_cons, beq_self_eq_true]
    · match i, h1, h2 with
      | 0, h1, h2 =>
        obtain rfl := Option.some.inj h1
        obtain rfl := Option.some.inj (Option.some.inj h2)
        exact ⟨_, rfl, .inl ⟨hself, rfl⟩⟩
      | 1, h1, h2 =>
        obtain rfl := Option.some.inj h1
        obtain rfl := Option.some.inj (Option.some.inj h2)
        exact ⟨_, rn, .inl ⟨hline, rfl⟩⟩
      | n + 2, h1, h2 => cases h1
    · obtain ⟨rfl, rfl⟩ := onlyc x c h
      exact ⟨_, _, hkk _ _ (kin _ _ lcc), rfl⟩
    · obtain ⟨rfl, rfl⟩ := onlyc x c h
      obtain ⟨o, ho⟩ := ccb
      exact (e0.bs _ _ ho).2
  obtain ⟨pl, hev1⟩ := hev env rfl
  obtain ⟨ccl2, cdd, vs, ccs, file, tf, lcd, hvs, hfile⟩ := S.cd
  refine PySem.ks_wpAt_execs_cons (PySem.ks_wpAt_Expr_any ?_ I.quiet)
  refine PySem.ks_wpAt_MethodCall ?_ hev1
  have kin1 : K.In s1.heap := I.kIn
  obtain ⟨nm, q, N', bs, bm, sn, sub, ab, col, dd, k0, k1, k2, k3, k5, hC, hbm⟩ := S.o.cls
  have hcl : PySem.W.clsIn K C = some { name := nm, bases := bs, mro := .ref C :: bm, ns := N', qualname := q, hasDict := true, slotNames := sn, subclasses := sub, abstract := ab, collection := col, hasDel := false } := by unfold PySem.W.clsIn; rw [hC] <;> rfl
  obtain ⟨t1, hex1⟩ := exo_at I.hok ha
  refine PySem.ks_wpAt_super_base (env := env) hks hkc (by decide) rfl (kin1 _ _ lk) rfl (show (params.posonlyargs ++ params.args).head? = some ar1 by rw [hpar]; rfl) rfl (kin1 _ _ lcd) rfl hvs hfile S.top ?_
  obtain ⟨mb, hb1, hb2⟩ := I.mod.blt
  refine PySem.W.ks_loadName_global hk hks (Calls.loadGlobal_builtin (env := env) (I.mod.glob.keeps I.bk) hms (hb1.keeps I.bk) ((hb2 "super" (by decide)).trans (show bootBuiltins "super" = some (.type "super") by decide +kernel)) ⟨rfl, ?_⟩)
  refine wpAny_loadName_free hk hkc rfl ⟨_, kin1 _ _ lcc, rfl⟩ ?_
  rw [ha1]
  refine wpAny_loadName_local (env := env) (name := "self") hk hself hns (v := .ref a) rfl ?_
  refine PySem.ks_wpAny_isType_cls (kin1 _ _ hC) rfl ⟨rfl, ?_⟩
  refine PySem.ks_wpAny_call_super (kin1 _ _ hC) rfl hex1 rfl (fun c e => by cases e) (PySem.W.looks_mroIn kin1 S.m) (fun h2 hso k2 => ?_)
  have I2 : Inv X [] (start nSup [.ref a, .int n]) H ⟨h2, s.gens, s.drawn, s.toks + (nSup.zip [Value.ref a, un]).length, s.os⟩ := I.kept k2
  have kin2 : K.In h2 := I2.kIn
  have ox2 := k2 _ _ hex1
  have IA : PySem.W.InstAt h2 a _ C none := ⟨ox2, rfl, rfl, trivial⟩
  have hsup := S.s
  unfold PySem.W.ks_superIn at hsup
  rw [hcl] at hsup
  refine PySem.W.kxs_getMethod PySem.W.kxs_ValueError hso (PySem.W.looks_opaque kin2 S.op) (l₀ := .ref C :: bm) (fun A Q E s k q => wpAny_bind ((PySem.W.looks_clsIn kin2 hcl) A _ E s k (wpAny_pure q))) rfl kin2 hsup (IA.type.andThen (PySem.W.looks_subIn kin2 S.v)) (PySem.W.ks_ne kin2 IA hcl) (by decide) ?_
  have hu0 : (h2.push (PySem.W.kxs_mw "ValueError.__init__" a)).get? h2.objs.size = some (PySem.W.kxs_mw "ValueError.__init__" a) := Heap.get?_push_at rfl rfl
  have I3 : Inv X [(h2.objs.size, PySem.W.kxs_mw "ValueError.__init__" a)] (start nSup [.ref a, .int n]) H ⟨h2.push (PySem.W.kxs_mw "ValueError.__init__" a), s.gens, s.drawn, s.toks + (nSup.zip [Value.ref a, un]).length + 1, s.os⟩ := by
    have J := I2.kept (h' := h2.push (PySem.W.kxs_mw "ValueError.__init__" a)) (t' := s.toks + (nSup.zip [Value.ref a, un]).length + 1) (fun b u e => Heap.get?_push_of_some _ e)
    refine J.pins_of fun p hp => ?_
    rcases List.mem_cons.mp hp with rfl | hp
    · exact ⟨hu0, I2.hok.fresh (Nat.le_refl _), fun z => Nat.lt_irrefl _ (z ▸ I2.lt), I2.nofs (Nat.le_refl _), fun v e => by cases e⟩
    · cases hp
  show wpAny (model P w) (A.deeper env) (callWith p3 (.ref h2.objs.size) [] (backTo p3 (starEach [e1] env)) []) _ _ _
  have pa : PA X [e1] (tCons te tNil) := pa_cons (hpe X rfl rfl) pa_nil (hst env rfl)
  refine callWith_sup (i := "ValueError.__init__") (x := a) (hst env rfl) rfl ?_
  refine thn (pa.run p3 _ _ _ H (fun vs H1 => ∃ y : Str, vs = [.str y] ∧ H1 = H) I3 (hte n (.ref a) H _ hn fun y => ⟨y, rfl, rfl⟩)) fun us s4 ⟨vs4, H4, I4, r4, y, e4, eH⟩ => ?_
  subst e4 eH
  obtain ⟨u1, rfl⟩ : ∃ u1, us = [u1] := by
    cases r4 with
    | cons r1 r2 => cases r2; exact ⟨_, rfl⟩
  obtain ⟨hp4, g4, d4, tk4, os4⟩ := s4
  have hu : hp4.get? h2.objs.size = some (PySem.W.kxs_mw "ValueError.__init__" a) := (I4.pin _ List.mem_cons_self).1
  refine ⟨hu, ?_⟩
  have I4' : Inv X [] (start nSup [.ref a, .int n]) H4 ⟨hp4, g4, d4, tk4, os4⟩ := I4.pins_of fun p hp => by cases hp
  obtain ⟨t4, ho4⟩ := exo_at I4'.hok ha
  refine wpAny_call (codeAny_of_tree ?_)
  show wpAny _ (A.deeper env).in1 (callAny (.ref h2.objs.size) ⟨[u1], []⟩) _ _ _
  simp only [callAny]
  refine wpAny_bind (wpAny_load hu ?_)
  simp only [PySem.W.kxs_mw, show (Value.type "method-wrapper" == Value.type "method" || Value.type "method-wrapper" == Value.type "builtin_function_or_method" || Value.type "method-wrapper" == Value.type "method-wrapper") = true by decide, if_true]
  refine PySem.W.KFB.if_so (by decide) ?_
  refine wpAny_bind (PySem.W.check_bound_init PySem.F.excBase_ValueError.toExcCallFacts (I4'.kIn _ _ hC) ho4 rfl ?_)
  refine wpAny_bind (wpAny_pure (wpAny_pure ?_))
  refine ⟨PySem.plainId_quiet PySem.F.excBase_ValueError.init.plain _, codeAny_builtin PySem.F.excBase_ValueError.initEntry ?_⟩
  refine PySem.W.exc_init_tree (cls := .ref C) (t0 := t4) (dv := none) (c2 := .none) (c3 := .none) (b4 := .bool false) ho4 (by show 1 ≤ sizeLine; rw [sizeLine_eq]; decide) (fun h5 k5' hx5 _ => ?_)
  have I5 : Inv X [] (start nSup [.ref a, .int n]) H4 ⟨h5, g4, d4, tk4, os4⟩ := by
    have J := I4'.write (h' := h5) (t' := tk4) (x := a) (e := a) (o := exo a C none) (by rw [ha]; exact True.intro) (.inl rfl) k5' ⟨_, hx5⟩ (exo_ok hx5)
    have eu : upd H4 a (exo a C none) = H4 := by
      funext b
      by_cases hb : b = a
      · rw [hb, upd_same, ha]
      · rw [upd_ne hb]
    rw [eu] at J
    exact J
  have st : PSs X [Stmt.Assign [.Attribute (.Name "self" p5) "line" p6] (.Name "line" p7) p8] (tOst K "line" (tVar 0) (tVar 1)) :=
    pss_one (ps_ost (pe_var (i := 0) rfl (.inl hself)) (pe_var (i := 1) rfl (.inl hline)) (hex env rfl))
  refine wpAt_of_wpAny (wpAny_mono (st.run [] _ _ H4 { nx := fun _ H' => Q .non H', rt := Q } I5 ⟨_, rfl, _, rfl, a, C, rfl, S.o, hno, .inl ⟨ha, fun dx n1 n2 => hq dx n1 n2⟩⟩) (fun fl s6 h6 => ?_) fun e s6 h6 => h6)
  cases fl with
  | ret u =>
    obtain ⟨v, σ', H', J', rv, q⟩ := h6
    exact ⟨v, H', J'.os, J'.bare, J'.base, J'.hok, rv, q⟩
  | next =>
    obtain ⟨σ', H', J', q⟩ := h6
    exact ⟨.non, H', J'.os, J'.bare, J'.base, J'.hok, rfl, q⟩
  | brk => obtain ⟨_, _, _, q⟩ := h6; exact q.elim
  | cont => obtain ⟨_, _, _, q⟩ := h6; exact q.elim
end
end FD

set_option Elab.async false
set_option linter.all false
set_option maxRecDepth 100000
set_option maxHeartbeats 4000000
namespace FD
open PySem PySem.Spec PyProof.Rows L2
/-! ### raise C(n), C a class with a field line -/
abbrev lineF (n : Int) : HO := .xd [(("line" : Str), .int n)]
def tRaiseN (W : WX) (C : Addr) (te : TE) : TS := fun _ σ H => tMkO C (spSup C) [] (tCons te tNil) σ H fun cls d H' => W cls d σ H'
structure ErrN (P : Program) (w : World) (K : PySem.W.Frag) (mg : Str → Option Value) (base : Heap) (nm : Str) (C : Addr) : Prop where
  g : mg nm = some (.ref C)
  o : OexC K C
  f : ∃ f fd, PySem.W.findIn K (.ref C) "__init__" = some (some (.ref f)) ∧ PySem.W.typeIn K (.ref f) = some (.type "function") ∧ Binds K fd nSup [] ∧ ∀ CX : CXT, FnOk P w K mg base CX 1 f fd nSup (spSup C)
section
variable {X : Cx} {W : WX} {nm : Str} {C : Addr} {e : Expr} {te : TE} {p pos pos2 : Pos}
theorem ps_raiseN {P : Program} {w : World} {K : PySem.W.Frag} {mg : Str → Option Value} {base : Heap} {m : Nat} (hc : X.calm = true) (E : ErrN P w K mg base nm C) (h1 : X.prog = P) (h2 : X.w = w) (h3 : X.K = K) (h4 : X.mg = mg) (h5 : X.base = base) (tk : Takes X W) (hg : Gl X nm) (hr : Room m X.A) (hm : 2 ≤ m) (he : PE X e te) (hdb : (nm == ("__debug__" : Str)) = false)
    (hst : starEach [e] X.env = (false, eval e X.env) :: starEach [] X.env) (hpl : (backTo pos (starEach [] X.env)).any (·.1) = false) :
    PS X (.Raise (some (.Call (.Name nm p) [e] [] pos)) none pos2) (tRaiseN W C te) := by
  subst h1 h2 h3 h4 h5
  obtain ⟨f, fd, iC, tI, hb, F⟩ := E.f
  exact ps_raise hc tk (pmk_oex (CX := fun _ _ _ _ _ _ => False) E.o iC tI (F _) (hr.mono hm) hb .nil (fun _ _ _ _ _ _ _ h => h.elim) hg E.g (pa_cons he pa_nil hst) hdb hst hpl)
end
/-- what is let out is C(n), told by R -/
def EvSN (K : PySem.W.Frag) (W : WX) (C : Addr) (t : TS) (env : En) (O : Outs) (R : Int → En → Prop) : Prop :=
  ∀ (B : Bs) (σ : L2.St) (G H : Hp) (D : Ends), EnvOk K B G H σ env →
    (∀ σ' G' H' env', O.nx env' → Ex G G' → EnvOk K B G' H' σ' env' → D.nx σ' H') →
    (∀ v G' H' σ' env' d, O.rt env' d → Ex G G' → EnvOk K B G' H' σ' env' → Dd G' v d → D.rt v H') →
    (∀ σ' G' H' env', O.bk env' → Ex G G' → EnvOk K B G' H' σ' env' → D.bk σ' H') →
    (∀ σ' G' H' env', O.ct env' → Ex G G' → EnvOk K B G' H' σ' env' → D.ct σ' H') →
    (∀ F p σ' G' H' env', O.rn F env' → Ex G G' → EnvOk K B G' H' σ' env' → G' p = none → F G' H' p → B.H p = none → D.rt (.ref p) H') →
    (∀ n σ' G' H' env' dd, R n env' → Ex G G' → EnvOk K B G' H' σ' env' → G' dd = some (lineF n) → W (.ref C) (some dd) σ' H') → t D σ H
/-- a promise that may raise C(n) -/
def spXN (C : Addr) (n : Nat) (pre : List PyData → Prop) (post : List PyData → PyData → Prop) (exc : List PyData → Int → Prop) : Sp := fun vs H Q E => ∃ (G : Hp) (ds : List PyData), Ex G H ∧ DdAll G vs ds ∧ ds.length = n ∧ pre ds ∧
  (∀ v G' H' d, post ds d → Ex G G' → Ex G' H' → Ex H H' → (∀ q o, H q = some o → G q = none → G' q = none) → Dd G' v d → Q v H') ∧
  (∀ m G' H' dd, exc ds m → Ex G G' → Ex G' H' → Ex H H' → (∀ q o, H q = some o → G q = none → G' q = none) → G' dd = some (lineF m) → E (.ref C) (some dd) H')
section
variable {K : PySem.W.Frag} {W : WX} {C : Addr} {env : En} {O : Outs} {t u : TS} {R : Int → En → Prop} {te : TE} {ta : TA} {pre : List PyData → Prop} {post : List PyData → PyData → Prop} {exc : List PyData → Int → Prop} {n : Nat}
theorem en_of (h : EvS K t env O) : EvSN K W C t env O R := fun B σ G H D I a b c d f _ => h B σ G H D I a b c d f
theorem en_seq (h : EvSN K W C t env { O with nx := fun e1 => EvSN K W C u e1 O R } R) : EvSN K W C (tSeq t u) env O R := fun B σ G H D I a b c d f x =>
  h B σ G H { D with nx := u D } I (fun σ1 G1 H1 e1 p1 x1 I1 => p1 B σ1 G1 H1 D I1 (fun σ2 G2 H2 e2 p2 x2 I2 => a σ2 G2 H2 e2 p2 (x1.trans x2) I2) (fun v G2 H2 σ2 e2 d2 p2 x2 I2 r2 => b v G2 H2 σ2 e2 d2 p2 (x1.trans x2) I2 r2)
    (fun σ2 G2 H2 e2 p2 x2 I2 => c σ2 G2 H2 e2 p2 (x1.trans x2) I2) (fun σ2 G2 H2 e2 p2 x2 I2 => d σ2 G2 H2 e2 p2 (x1.trans x2) I2) (fun F q σ2 G2 H2 e2 p2 x2 => f F q σ2 G2 H2 e2 p2 (x1.trans x2)) (fun m σ2 G2 H2 e2 dd p2 x2 I2 => x m σ2 G2 H2 e2 dd p2 (x1.trans x2) I2)) b c d f x
theorem en_if {tt : TT} (h : EvB K tt env fun e1 c => (c = true → EvSN K W C t e1 O R) ∧ (c = false → EvSN K W C u e1 O R)) : EvSN K W C (tIfS tt t u) env O R := fun B σ G H D I a b c d f x =>
  h B σ G H _ I fun k G1 H1 e1 p1 x1 I1 => by
    have go : ∀ {t : TS}, EvSN K W C t e1 O R → t D σ H1 := fun {t} ht => ht B σ G1 H1 D I1 (fun σ2 G2 H2 e2 p2 x2 I2 => a σ2 G2 H2 e2 p2 (x1.trans x2) I2) (fun v G2 H2 σ2 e2 d2 p2 x2 I2 r2 => b v G2 H2 σ2 e2 d2 p2 (x1.trans x2) I2 r2)
      (fun σ2 G2 H2 e2 p2 x2 I2 => c σ2 G2 H2 e2 p2 (x1.trans x2) I2) (fun σ2 G2 H2 e2 p2 x2 I2 => d σ2 G2 H2 e2 p2 (x1.trans x2) I2) (fun F q σ2 G2 H2 e2 p2 x2 => f F q σ2 G2 H2 e2 p2 (x1.trans x2)) (fun m σ2 G2 H2 e2 dd p2 x2 I2 => x m σ2 G2 H2 e2 dd p2 (x1.trans x2) I2)
    cases k with
    | true => exact iteT (go (p1.1 rfl))
    | false => exact iteF (go (p1.2 rfl))
theorem en_raise (h : EvE K te env fun e1 d => ∃ m : Int, d = .int m ∧ m.natAbs.log2 < 1000 ∧ R m e1) : EvSN K W C (tRaiseN W C te) env O R := fun B σ G H D I a b c d f x =>
  h B σ G H _ I fun v G1 H1 e1 d1 p1 x1 I1 r1 => by
    obtain ⟨m, rfl, hm, hR⟩ := p1
    cases r1
    refine ⟨(show (1 : Nat) ≤ 1000 by decide), fun q nq => ⟨q, m, rfl, hm, upd_same, fun dx n1 n2 => ⟨rfl, dx, [(("line" : Str), .int m)], upd_same, ?_, ?_, ?_⟩⟩⟩
    · rw [upd_ne n2, upd_same]
    · rw [upd_ne n2] at n1
      exact n1
    · have n1' : H1 dx = none := by rw [upd_ne n2] at n1; exact n1
      have eq : upd (del (upd (upd (upd H1 q (exo q C none)) dx (exd dx [(("line" : Str), .int m)])) q (exo q C (some dx))) q) dx (lineF m) = upd H1 dx (lineF m) := by
        funext b
        by_cases hb : b = dx
        · rw [hb, upd_same, upd_same]
        · rw [upd_ne hb, upd_ne hb]
          by_cases hq : b = q
          · rw [hq, del_same]; exact nq.symm
          · rw [del_ne hq, upd_ne hq, upd_ne hb, upd_ne hq]
      show W (.ref C) (some dx) σ (upd (del (upd (upd (upd H1 q (exo q C none)) dx (exd dx [(("line" : Str), .int m)])) q (exo q C (some dx))) q) dx (lineF m))
      rw [eq]
      exact x m σ _ _ e1 dx hR (x1.trans (Ex.new (I1.exH.fresh n1'))) (I1.new n1') upd_same
theorem en_drop (h : EvAs K ta env fun e1 ds => ds.length = n ∧ pre ds ∧ (∀ d, post ds d → O.nx e1) ∧ ∀ m, exc ds m → R m e1) : EvSN K W C (tDrop (tCallX (spXN C n pre post exc) W ta)) env O R := fun B σ G H D I a b c d f x =>
  h B σ G H _ I fun vs G1 H1 e1 ds p1 x1 I1 r1 => ⟨G1, ds, I1.exH, r1, p1.1, p1.2.1, fun v G2 H2 dd pd x2 x3 x4 fr rd => a σ G2 H2 e1 (p1.2.2.1 dd pd) (x1.trans x2) (I1.went x2 x3 x4 fr),
    fun m G2 H2 dd pe x2 x3 x4 fr hd => x m σ G2 H2 e1 dd (p1.2.2.2 m pe) (x1.trans x2) (I1.went x2 x3 x4 fr) hd⟩
theorem en_asgC {i : Nat} (h : EvAs K ta env fun e1 ds => ds.length = n ∧ pre ds ∧ (∀ d, post ds d → O.nx (e1.set i (some (.dat d)))) ∧ ∀ m, exc ds m → R m e1) : EvSN K W C (tAsg (tCallX (spXN C n pre post exc) W ta) (gName i)) env O R := fun B σ G H D I a b c d f x =>
  h B σ G H _ I fun vs G1 H1 e1 ds p1 x1 I1 r1 => ⟨G1, ds, I1.exH, r1, p1.1, p1.2.1, fun v G2 H2 dd pd x2 x3 x4 fr rd => a _ G2 H2 _ (p1.2.2.1 dd pd) (x1.trans x2) ((I1.went x2 x3 x4 fr).setD rd),
    fun m G2 H2 dd pe x2 x3 x4 fr hd => x m σ G2 H2 e1 dd (p1.2.2.2 m pe) (x1.trans x2) (I1.went x2 x3 x4 fr) hd⟩
end
section
variable {P : Program} {w : World} {K : PySem.W.Frag} {mg : Str → Option Value} {base : Heap} {x qual : Str} {st : Stmt} {f : Addr} {fd : FuncData} {N ps : List Str} {k : Nat}
theorem fnXN (C : Addr) (F : L2.Fun K x qual st f fd) (S : FnScope N ps (defScope st)) (pre : List PyData → Prop) (post : List PyData → PyData → Prop) (exc : List PyData → Int → Prop)
    (hb : ∀ (cdv : Value) (A : Around) (outer : List PySem.Env) (s : Shared) (H : Hp) (E : XK), A.guards = some [] → Room k (A.deeper (envOfC qual (defScope st) s.heap.objs.size f cdv)) →
      Takes (cxOf (L2.CX P w) P w K mg base N qual (defScope st) f cdv A outer s H E) (fun cls d _ H' => E cls d H') →
      ∃ t, PSs (cxOf (L2.CX P w) P w K mg base N qual (defScope st) f cdv A outer s H E) (defBody st) t ∧
        ∀ ds : List PyData, ds.length = ps.length → pre ds → EvSN K (fun cls d _ H' => E cls d H') C t (stD N.length ds) { nx := fun _ => post ds .none, rt := fun _ d => post ds d } fun m _ => exc ds m) :
    FnX P w K mg base (k + 1) f fd ps (spXN C ps.length pre post exc) := by
  refine fnX_of F S (fun vs H Q E ⟨G, ds, _, r, hl, _⟩ => r.length.trans hl) fun cdv A outer s H vs Q E hg hr ⟨G, ds, e, r, hl, hp, q, q2⟩ => ?_
  have tk : Takes (cxOf (L2.CX P w) P w K mg base N qual (defScope st) f cdv A outer s H E) (fun cls d _ H' => E cls d H') := takes_of rfl rfl rfl rfl
  obtain ⟨t, ht, ev⟩ := hb cdv A outer s H E hg hr tk
  refine ⟨t, ht, ev ds hl hp _ _ G H _ (startD e r) (fun σ' G' H' env' p x' I => ?_) (fun v G' H' σ' env' d p x' I rd => ?_) (fun _ _ _ _ z => z.elim) (fun _ _ _ _ z => z.elim) (fun _ _ _ _ _ _ z => z.elim) (fun m σ' G' H' env' dd p x' I hd => ?_)⟩
  · exact q .non G' H' .none p x' I.exH (fun a o h => I.keep a o h fun z => z) (fun a o h g => I.nog a o h g) .non
  · exact q v G' H' d p x' I.exH (fun a o h => I.keep a o h fun z => z) (fun a o h g => I.nog a o h g) rd
  · exact q2 m G' H' dd p x' I.exH (fun a o h => I.keep a o h fun z => z) (fun a o h g => I.nog a o h g) hd
end
/-! ### what was caught, with its line -/
def errN (C : Addr) (n : Int) : Hp → V → Prop := fun H v => ∃ a dd, v = .ref a ∧ H a = some (ErrAt (.ref C) (some dd) a) ∧ H dd = some (lineF n)
theorem errN_m (C : Addr) (n : Int) {G G' : Hp} {v : V} (e : Ex G G') (h : errN C n G v) : errN C n G' v := by
  obtain ⟨a, dd, rfl, q, r⟩ := h
  exact ⟨a, dd, rfl, e _ _ q, e _ _ r⟩
abbrev slN' (C : Addr) (n : Int) : Sl := .fro (errN C n) (errN_m C n)
theorem en_tryKeep {K : PySem.W.Frag} {env : En} {O : Outs} {c : Value} {C : Addr} {i j : Nat} {tb : WX → TS} {R : Int → En → Prop} (hij : i ≠ j) (h : ∀ W, EvSN K W C (tb W) env O R) (hx : PySem.W.exmOne K (.ref C) c = some true)
    (hc : ∀ m e, R m e → i < e.length ∧ O.nx ((e.set j (some (slN' C m))).set i none)) :
    EvS K (fun D σ H => tb (wKeep K c i (fun _ _ _ => tAsg (tVar i) (gName j)) D) D σ H) env O := fun B σ G H D I a b cc d f => by
  refine h _ B σ G H D I a b cc d f fun m σ' G' H' e' dd r x' I' hdd => ?_
  obtain ⟨hi, h2⟩ := hc m e' r
  refine ⟨hx, fun p np => ?_⟩
  have hl : i < σ'.length := by rw [I'.len]; exact hi
  refine ⟨.ref p, by rw [List.getElem?_set_self hl], ?_⟩
  show D.nx (((σ'.set i (some (.ref p))).set j (some (.ref p))).set i none) (upd H' p (ErrAt (.ref C) (some dd) p))
  have e1 : ((σ'.set i (some (V.ref p))).set j (some (.ref p))).set i none = (σ'.set j (some (.ref p))).set i none := by
    rw [List.set_comm _ _ hij, List.set_set]
  rw [e1]
  have gp := I'.exH.fresh np
  have I2 : EnvOk K B (upd G' p (ErrAt (.ref C) (some dd) p)) (upd H' p (ErrAt (.ref C) (some dd) p)) σ' e' := I'.new np
  have dp : dd ≠ p := fun z => by rw [z, gp] at hdd; cases hdd
  exact a _ _ _ _ h2 (x'.trans (Ex.new gp)) ((I2.setF (F := errN C m) (v := .ref p) (errN_m C m) ⟨p, dd, rfl, upd_same, by rw [upd_ne dp]; exact hdd⟩).setN i)
end FD

set_option Elab.async false
set_option linter.all false
set_option maxRecDepth 100000
set_option maxHeartbeats 4000000
namespace FD
open PySem PySem.Spec PyProof.Rows L2
/-! ### isinstance of what was caught with its line -/
def rIsErrN (K : PySem.W.Frag) : List V → Hp → VK → Prop := fun xs H Q => ∃ (a D dd : Addr) (n : Int) (c : V) (cv : Value) (b : Bool), xs = [.ref a, c] ∧ H a = some (ErrAt (.ref D) (some dd) a) ∧ H dd = some (lineF n) ∧ ExcC K D ∧ (∀ u, RelV c u → u = cv) ∧ PySem.W.kitOne K (.ref D) cv = some b ∧ Q (.bl b) H
theorem inst_xd {X : Cx} {pins : List (Addr × Obj)} {σ : L2.St} {H : Hp} {s : Shared} (I : Inv X pins σ H s) {a D dd : Addr} {fs : List (Str × V)} (ha : H a = some (ErrAt (.ref D) (some dd) a)) (hd : H dd = some (.xd fs)) :
    ∃ (oe od : Obj) (mA : Str → Option Value), PySem.W.InstAt s.heap a oe D (some od) ∧ (∀ f, RelO (fs.lookup f) (mA f)) ∧ ∀ name, PySem.W.lookIn name od = some (mA name) := by
  obtain ⟨⟨oe, vs, hget, hz, hv⟩, _⟩ := I.hok a _ ha
  have hx : ObjOk X.prog X.w H s.heap dd (.xd fs) := I.hok dd _ hd
  obtain ⟨mA, hns, hr⟩ := hx
  obtain ⟨od, ho, hl⟩ := lookIn_ns hns
  exact ⟨oe, od, mA, ⟨hget, hz.1, by unfold PySem.W.notCls; rw [hv] <;> rfl, by rw [hz.2]; exact ho⟩, hr, hl⟩
theorem call_isErrN {X : Cx} : CallR X (.builtin "isinstance") (rIsErrN X.K) := by
  intro pins s σ H xs us Q I r h
  obtain ⟨a, D, dd, n, c, cv, b, rfl, ha, hd, C, hcv, e, q⟩ := h
  cases r with
  | cons rx rr =>
    cases rr with
    | cons rt rr =>
      cases rr
      cases rx
      have ec := hcv _ rt
      subst ec
      obtain ⟨oe, od, mA, J, _, _⟩ := inst_xd I ha hd
      exact PySem.W.kia_one (PySem.W.kitx_exc (by obtain ⟨cd, hc, _⟩ := PySem.W.any_some C.hd; rw [hc]; rfl) C.hg C.hk C.hs C.ha C.hn C.ht C.hm) I.kIn J e (fun z => nomatch z) fun tk => ⟨.bl b, H, I.kept (t' := tk) fun _ _ z => z, rfl, q⟩
def rIsCN (K : PySem.W.Frag) : List V → Hp → VK → Prop := fun xs H Q => rIsC K xs H Q ∨ rIsErrN K xs H Q
theorem call_isCN {X : Cx} : CallR X (.builtin "isinstance") (rIsCN X.K) := CallR.or call_isC call_isErrN
section
variable {X : Cx} {K : PySem.W.Frag}
theorem km_isiCN (m : KMark K) (hK : X.K = K) {C : Addr} {nm : Str} {e : Expr} {te : TE} {p p2 pos : Pos} (b : Bi X.mg) (hm : X.mg nm = some (.ref C)) (hg : Gl X "isinstance") (hg2 : Gl X nm) (he : PE X e te)
    (h1 : starEach [e, .Name nm p2] X.env = (false, eval e X.env) :: starEach [.Name nm p2] X.env) (h2 : starEach [.Name nm p2] X.env = (false, eval (.Name nm p2) X.env) :: starEach [] X.env)
    (hpl : (backTo pos (starEach [.Name nm p2] X.env)).any (·.1) = false) (hd : (nm == ("__debug__" : Str)) = false) :
    PE X (.Call (.Name "isinstance" p) [e, .Name nm p2] [] pos) (tCB (rIsCN K) (tCons te (tCons (tC (.ref C)) tNil))) := by
  subst hK
  exact pe_callB (x := "isinstance") call_isCN hg b.isi (by decide +kernel) (pa_cons he (pa_cons (L2.pe_glob (v := .ref C) hg2 hm rfl hd) pa_nil h2) h1) (by decide) (by decide) h1 hpl
theorem km_isiVN (m : KMark K) (hK : X.K = K) {n : String} {nm : Str} {e : Expr} {te : TE} {p p2 pos : Pos} (b : Bi X.mg) (hm : X.mg nm = none) (hv : bootBuiltins nm = some (.type n)) (hg : Gl X "isinstance") (hg2 : Gl X nm) (he : PE X e te)
    (h1 : starEach [e, .Name nm p2] X.env = (false, eval e X.env) :: starEach [.Name nm p2] X.env) (h2 : starEach [.Name nm p2] X.env = (false, eval (.Name nm p2) X.env) :: starEach [] X.env)
    (hpl : (backTo pos (starEach [.Name nm p2] X.env)).any (·.1) = false) (hn : nm ≠ "__name__") (hd : (nm == ("__debug__" : Str)) = false) :
    PE X (.Call (.Name "isinstance" p) [e, .Name nm p2] [] pos) (tCB (rIsCN K) (tCons te (tCons (tC (.ty n)) tNil))) := by
  subst hK
  exact pe_callB (x := "isinstance") call_isCN hg b.isi (by decide +kernel) (pa_cons he (pa_cons (pe_bltn (v := .ty n) hg2 hm hv rfl hn hd) pa_nil h2) h1) (by decide) (by decide) h1 hpl
/-- e.line -/
def tLine (K : PySem.W.Frag) (te : TE) : TE := fun σ H Q => te σ H fun x H1 => ∃ (a D dd : Addr) (fs : List (Str × V)) (v : V), x = .ref a ∧ H1 a = some (ErrAt (.ref D) (some dd) a) ∧ H1 dd = some (.xd fs) ∧ XfC K D ∧ PySem.W.findIn K (.ref D) "line" = some none ∧ fs.lookup ("line" : Str) = some v ∧ Q v H1
theorem km_line (m : KMark K) (hK : X.K = K) {e : Expr} {te : TE} {pos : Pos} (he : PE X e te) (hb : attributeBase e "line" X.env (eval e X.env) = eval e X.env) : PE X (.Attribute e "line" pos) (tLine K te) := by
  subst hK
  refine ⟨fun pins s σ H Q I h => ?_⟩
  refine attr_of hb (thn (he.run pins s σ H _ I h) fun u s1 hh => ?_)
  obtain ⟨x, H1, I1, rx, a, D, dd, fs, v, ex, ea, ed, T, hno, l, q⟩ := hh
  subst ex
  obtain rfl : u = Value.ref a := rx
  obtain ⟨oe, od, mA, J, hr, hl⟩ := inst_xd I1 ea ed
  obtain ⟨u, hu, ru⟩ := RelO.some_of (v := v) (o := mA "line") (by rw [← l]; exact hr "line")
  exact HandSPX.exc_get I1.kIn J T.ga T.gg T.exC (PySem.W.findObj_own T.hdC hno rfl (by rw [hl, hu])) (handed_of ru) ⟨v, H1, I1.tok _, ru, q⟩
end
section
variable {K : PySem.W.Frag} {env : En} {P : En → PyData → Prop} {i : Nat} {C : Addr} {n : Int} {c : V} {cv : Value} {b : Bool}
theorem ev_isCN (hi : env[i]? = some (some (slN' C n))) (hC : ExcC K C) (hc : ClsV c cv) (hk : PySem.W.kitOne K (.ref C) cv = some b) (p : P env (.bool b)) : EvE K (tCB (rIsCN K) (tCons (tVar i) (tCons (tC c) tNil))) env P := fun B σ G H Q I q => by
  obtain ⟨v, hv, hF⟩ := I.sl i _ hi
  refine ⟨v, hv, ?_⟩
  obtain ⟨a, dd, rfl, ha, hd⟩ := (show errN C n G v from hF)
  exact .inr ⟨a, C, dd, n, c, cv, b, rfl, I.exH _ _ ha, I.exH _ _ hd, hC, fun u r => hc.eq r, hk, q _ G H env _ p (Ex.refl G) I (.bl _)⟩
theorem ev_line (hi : env[i]? = some (some (slN' C n))) (T : XfC K C) (hno : PySem.W.findIn K (.ref C) "line" = some none) (p : P env (.int n)) : EvE K (tLine K (tVar i)) env P := fun B σ G H Q I q => by
  obtain ⟨v, hv, hF⟩ := I.sl i _ hi
  obtain ⟨a, dd, rfl, ha, hd⟩ := (show errN C n G v from hF)
  refine ⟨.ref a, hv, a, C, dd, _, .int n, rfl, I.exH _ _ ha, I.exH _ _ hd, T, hno, rfl, q _ G H env _ p (Ex.refl G) I (.int _)⟩
theorem ev_isntN (hi : env[i]? = some (some (slN' C n))) (p : P env (.bool true)) : EvE K (tOp rIsNotAny (tVar i) (tC .non)) env P := fun B σ G H Q I q => by
  obtain ⟨v, hv, hF⟩ := I.sl i _ hi
  obtain ⟨a, dd, rfl, ha, hd⟩ := (show errN C n G v from hF)
  exact ⟨.ref a, hv, .inr ⟨rfl, q _ G H env _ p (Ex.refl G) I (.bl _)⟩⟩
end
/-- a def of one argument, what was caught with its line -/
def spWN (C : Addr) (post : Int → PyData → Prop) : Sp := fun vs H Q _ => ∃ (G : Hp) (v : V) (n : Int), vs = [v] ∧ Ex G H ∧ errN C n G v ∧
  ∀ u G' H' d, post n d → Ex G G' → Ex G' H' → Ex H H' → (∀ q o, H q = some o → G q = none → G' q = none) → Dd G' u d → Q u H'
section
variable {P : Program} {w : World} {K : PySem.W.Frag} {mg : Str → Option Value} {base : Heap} {x qual : Str} {st : Stmt} {f : Addr} {fd : FuncData} {N : List Str} {p1 : Str} {k : Nat} {C : Addr}
theorem fnWN (F : L2.Fun K x qual st f fd) (S : FnScope N [p1] (defScope st)) (post : Int → PyData → Prop)
    (hb : ∀ (cdv : Value) (A : Around) (outer : List PySem.Env) (s : Shared) (H : Hp), A.guards = some [] → Room k (A.deeper (envOfC qual (defScope st) s.heap.objs.size f cdv)) →
      ∃ t, PSs (cxOf CX0 P w K mg base N qual (defScope st) f cdv A outer s H E0).nox (defBody st) t ∧
        ∀ n, EvS K t (some (slN' C n) :: stD (N.length - 1) []) { nx := fun _ => False, rt := fun _ d => post n d }) : FnG P w K mg base (k + 1) f fd [p1] (spWN C post) := by
  refine fnG_of F S (fun vs H Q E ⟨G, v, n, e, _⟩ => by rw [e]; rfl) fun cdv A outer s H vs Q hg hr ⟨G, v, n, e, x, hF, q⟩ => ?_
  subst e
  obtain ⟨t, ht, ev⟩ := hb cdv A outer s H hg hr
  refine ⟨t, ht, ev n _ _ G H _ (startT (Fa := errN C) (x := n) (fun {G G'} {v} => errN_m C n) x hF .nil) (fun _ _ _ _ z => z.elim) (fun v G' H' σ' env' d p x' I rd => ?_) (fun _ _ _ _ z => z.elim) (fun _ _ _ _ z => z.elim) (fun _ _ _ _ _ _ z => z.elim)⟩
  exact q v G' H' d p x' I.exH (fun a o h => I.keep a o h fun z => z) (fun a o h g => I.nog a o h g) rd
end
theorem ev_callWN {K : PySem.W.Frag} {env : En} {P : En → PyData → Prop} {i : Nat} {C : Addr} {n : Int} {post : Int → PyData → Prop} (hi : env[i]? = some (some (slN' C n))) (h : ∀ d, post n d → P env d) : EvE K (tCB (callOf (spWN C post)) (tCons (tVar i) tNil)) env P := fun B σ G H Q I q => by
  obtain ⟨v, hv, hF⟩ := I.sl i _ hi
  exact ⟨v, hv, G, v, n, rfl, I.exH, hF, fun u G2 H2 d pd x2 x3 x4 fr rd => q u G2 H2 env d (h d pd) x2 (I.went x2 x3 x4 fr) rd⟩
end FD

set_option Elab.async false
set_option linter.all false
set_option maxRecDepth 100000
set_option maxHeartbeats 4000000
namespace FD
open PySem PySem.Spec PyProof.Rows L2
/-! ### try: .. except C as n: return n -/
/-- what 'except x as n' wishes, where it takes all that comes: slot i is n's; behind the clause the heap tells the exception -/
def wKeepR (K : PySem.W.Frag) (c : Value) (i : Nat) (ts : Addr → Value → Option Addr → TS) (D : Ends) : WX := fun cls d σ H => PySem.W.exmOne K cls c = some true ∧
  ∀ a, H a = none → ts a cls d { nx := fun σ' H' => D.nx (σ'.set i none) (upd H' a (ErrAt cls d a)), rt := fun v H' => D.rt v (upd H' a (ErrAt cls d a)) } (σ.set i (some (.ref a))) H
section
variable {X : Cx} {x n : Str} {c : Value} {i : Nat} {body suite : List Stmt} {b₀ : Stmt} {np pos pos' : Pos} {tb : WX → TS} {ts : Addr → Value → Option Addr → TS}
theorem ps_tryRet (hs : X.stack = X.env :: X.outer) (hf : X.env.frame = some X.env.locals) (hex : X.ex = []) (hN : X.N.Nodup) (hi : X.N[i]? = some n) (hln : X.env.kindOf n = some .local) (hc : Names X x c)
    (hb : ∀ (W : WX) (pn : List (Addr × Obj)) (xe : Value → Shared → Prop), Takes (X.tr pn xe) W → PassesOwn (model X.prog X.w) X.A X.env xe → PSs (X.tr pn xe) body (tb W))
    (hsu : ∀ (a : Addr) (oe : Obj) (cls : Value) (d : Option Addr) (pn : List (Addr × Obj)), Zc cls d oe → (∃ vs, oe.data = .fields vs) → PSs (X.suite a ((a, oe) :: pn)) (b₀ :: suite) (ts a cls d)) :
    PS X (.Try body [.ExceptHandler (some (.Name x np)) (some n) (b₀ :: suite) pos'] [] [] pos) (fun D σ H => tb (wKeepR X.K c i ts D) D σ H) := by
  refine ⟨fun pins s σ H D I h => wpAny_Try_except ?_⟩
  have ok := I.ok
  have frames : X.A.frames = some (X.env :: X.outer) := by rw [ok.frames, hs]
  let out : Value → Shared → Prop := fun e s₁ => wpAny (model X.prog X.w) X.A (noteFrame e X.env) (fun _ s₂ => wpAny (model X.prog X.w) X.A (setFlight e none) (fun _ s₃ =>
    wpAny (model X.prog X.w) X.A (handleBy e X.env [.ExceptHandler (some (.Name x np)) (some n) (b₀ :: suite) pos']) (SP X pins D) X.xe s₃) X.xe s₂) X.xe s₁
  have takes : Takes (X.tr (X.pn ++ pins) out) (wKeepR X.K c i ts D) := by
    rintro u s' ⟨a, B, sI, pins', σ', H', cls, d, rfl, J', nb, up, sky, na, os, ag, isC, wish⟩
    have J : Inv X pins σ' H' sI := J'.ofTry ok
    have sky2 : Sky B (X.env :: X.outer) a (Zc cls d) X.env.locals s'.heap := by rw [← hs]; exact sky
    show wpAny (model X.prog X.w) X.A (noteFrame (.ref a) X.env) _ _ _
    refine Sky.land Zc.steady frames hf sky2 fun h3 fl up3 => ?_
    have J3 : Inv X pins σ' H' { s' with heap := h3 } := J.landed nb fl.1 (up.trans up3) os ag
    obtain ⟨oe, vs, at3, z3, d3⟩ := fl.there
    have inFrames : a ∉ frs (X.env :: X.outer) := fun hm => by
      obtain ⟨_, o, e, q⟩ := fl.2.2.1.mem hm
      rw [at3] at e; cases e
      exact q _ d3
    have nL : a ≠ X.env.locals := fun z => inFrames (List.mem_filterMap.mpr ⟨X.env, List.mem_cons_self, by rw [hf, z]⟩)
    have nF : a ∉ X.fs := fun hm => by
      obtain ⟨e, he, q⟩ := List.mem_filterMap.mp hm
      exact inFrames (List.mem_filterMap.mpr ⟨e, List.mem_cons_of_mem _ he, q⟩)
    -- the exception is younger than the body's own state
    have young : sI.heap.get? a = none := by
      cases q : sI.heap.get? a with
      | none => rfl
      | some o =>
        have := nb a o q (by rw [hs]; exact inFrames)
        rw [fl.2.1] at this; cases this
    have new : X.s_0.heap.get? a = none := by
      cases q : X.s_0.heap.get? a with
      | none => rfl
      | some o =>
        obtain ⟨o', e⟩ := J.base.there a o q (by rw [hex]; simp)
        rw [young] at e; cases e
    have others : ∀ p ∈ X.pn ++ pins, p.1 ≠ a := fun p hp z => by
      have := (J.pin p hp).1
      rw [z, young] at this; cases this
    have S3 := J3.suite at3 d3 na nL nF
    refine wpAny_handleBy_cons (codeAny_handlers_test ?_) (by intro q; cases q)
    have asks := PySem.W.exm_one (M := model X.prog X.w) J3.kIn (fun A Q E s k q => wpAny_typeOf_ref (k _ _ at3) (by rw [z3.1]; exact q)) isC
    have named : ∀ {Q : Value → Shared → Prop} {E : Value → Shared → Prop}, Q c { s' with heap := h3 } → wpAny (model X.prog X.w) (X.A.mark (some (.ref a))) (eval (.Name x np) X.env) Q E { s' with heap := h3 } := fun {Q E} q => by
      obtain ⟨g1, g2, g3 | ⟨g3, g4, g5⟩⟩ := hc
      · exact ld_glob (X := X.suite a ((a, oe) :: (X.pn ++ pins))) S3 g1 g3 q g2
      · exact ld_blt (X := X.suite a ((a, oe) :: (X.pn ++ pins))) S3 g1 g3 g4 q g5 g2
    refine named (asks.here (codeAny_handlers_suite_as ?_))
    refine HandSPX.lands_againZ fl fun h4 fl4 up4 => ?_
    have J4 : Inv X pins σ' H' { s' with heap := h4 } := J.landed nb fl4.1 ((up.trans up3).trans up4) os ag
    obtain ⟨oe4, vs4, at4, z4, d4⟩ := fl4.there
    have S4 := J4.suite at4 d4 na nL nF
    refine store_ok (X := X.suite a ((a, oe4) :: (X.pn ++ pins))) (v := .ref a) S4 hN hi (.inl hln) rfl (fun s5 S5 => ?_) (.inr hln)
    refine wpAny_mono ((hsu a oe4 cls d (X.pn ++ pins) z4 ⟨_, d4⟩).run [] s5 _ H' _ S5 (wish a na)) (fun fl s6 hsp => ?_) (fun _ _ z => False.elim z)
    cases fl with
    | next =>
      obtain ⟨σ6, H6, S6, q6⟩ := hsp
      have K6 : Inv X ((a, oe4) :: pins) σ6 H6 s6 := ⟨ok, S6.os, S6.bare, S6.base, S6.loc, S6.cell, S6.free, S6.freeC, fun p hp => S6.pin p (by
        rw [List.append_nil]
        rcases List.mem_append.mp hp with q | q
        · exact List.mem_cons_of_mem _ (List.mem_append_left _ q)
        · rcases List.mem_cons.mp q with q | q
          · rw [q]; exact List.mem_cons_self
          · exact List.mem_cons_of_mem _ (List.mem_append_right _ q)), S6.hok, S6.len⟩
      exact gone_ok K6 hN hi hln fun s7 K7 => ⟨_, _, pin_told K7 z4 d4 new others, q6⟩
    | brk => obtain ⟨_, _, _, q⟩ := hsp; exact q.elim
    | cont => obtain ⟨_, _, _, q⟩ := hsp; exact q.elim
    | ret u =>
      obtain ⟨v6, σ6, H6, S6, rv6, q6⟩ := hsp
      have K6 : Inv X ((a, oe4) :: pins) σ6 H6 s6 := ⟨ok, S6.os, S6.bare, S6.base, S6.loc, S6.cell, S6.free, S6.freeC, fun p hp => S6.pin p (by
        rw [List.append_nil]
        rcases List.mem_append.mp hp with q | q
        · exact List.mem_cons_of_mem _ (List.mem_append_left _ q)
        · rcases List.mem_cons.mp q with q | q
          · rw [q]; exact List.mem_cons_self
          · exact List.mem_cons_of_mem _ (List.mem_append_right _ q)), S6.hok, S6.len⟩
      exact gone_ok K6 hN hi hln fun s7 K7 => ⟨v6, _, _, pin_told K7 z4 d4 new others, rv6, q6⟩
  refine wpAny_mono ((hb (wKeepR X.K c i ts D) (X.pn ++ pins) out takes PassesOwn.looking).run [] s σ H D (I.toTry _) h) (fun f s1 hsp => ?_) fun e s1 he => he
  cases f with
  | next =>
    obtain ⟨σ', H', J', q⟩ := hsp
    exact wpAny_execs_nil ⟨σ', H', J'.ofTry ok, q⟩
  | brk =>
    obtain ⟨σ', H', J', q⟩ := hsp
    exact ⟨σ', H', J'.ofTry ok, q⟩
  | cont =>
    obtain ⟨σ', H', J', q⟩ := hsp
    exact ⟨σ', H', J'.ofTry ok, q⟩
  | ret u =>
    obtain ⟨v, σ', H', J', r, q⟩ := hsp
    exact ⟨v, σ', H', J'.ofTry ok, r, q⟩
end

/-- what is handed back: what was caught, with its line -/
def freshN (C : Addr) (m : Int) : Hp → Hp → Addr → Prop := fun _ H p => ∃ dd, H p = some (ErrAt (.ref C) (some dd) p) ∧ H dd = some (lineF m)
theorem en_tryRet {K : PySem.W.Frag} {env : En} {O : Outs} {c : Value} {C : Addr} {i : Nat} {tb : WX → TS} {R : Int → En → Prop} (h : ∀ W, EvSN K W C (tb W) env O R) (hx : PySem.W.exmOne K (.ref C) c = some true)
    (hc : ∀ m e, R m e → i < e.length ∧ O.rn (fun G H p => ∃ dd, G dd = some (lineF m) ∧ H p = some (ErrAt (.ref C) (some dd) p)) e) :
    EvS K (fun D σ H => tb (wKeepR K c i (fun _ _ _ => tRet (tVar i)) D) D σ H) env O := fun B σ G H D I a b cc d f => by
  refine h _ B σ G H D I a b cc d f fun m σ' G' H' e' dd r x' I' hdd => ?_
  obtain ⟨hi, h2⟩ := hc m e' r
  refine ⟨hx, fun p np => ?_⟩
  have hl : i < σ'.length := by rw [I'.len]; exact hi
  refine ⟨.ref p, by rw [List.getElem?_set_self hl], ?_⟩
  show D.rt (.ref p) (upd H' p (ErrAt (.ref C) (some dd) p))
  have I2 : EnvOk K B G' (upd H' p (ErrAt (.ref C) (some dd) p)) σ' e' := I'.went (Ex.refl G') (I'.exH.trans (Ex.new np)) (Ex.new np) (fun q o h g => g)
  exact f _ p _ _ _ _ h2 x' I2 (I'.exH.fresh np) ⟨dd, hdd, upd_same⟩ (by
    cases q : B.H p with
    | none => rfl
    | some o =>
      obtain ⟨u, hu⟩ := I'.there p o q
      rw [np] at hu; cases hu)
end FD

set_option Elab.async false
set_option linter.all false
set_option maxRecDepth 100000
set_option maxHeartbeats 4000000
namespace FD
open PySem PySem.Spec PyProof.Rows L2
/-! ### texts: split, f-strings, slices, int, str; in and index of data -/
abbrev strD (ys : List Str) : PyData := .list (ys.map PyData.str)
theorem dd_strs {G : Hp} : ∀ ys : List Str, DdAll G (ys.map V.str) (ys.map PyData.str)
  | [] => .nil
  | _ :: r => .cons (.str _) (dd_strs r)
def rSplit : V → List V → Hp → VK → Prop := fun x xs H Q => ∃ a b, x = .str a ∧ xs = [.str b] ∧ (b.length == 0) = false ∧ a.length + 2 ≤ sizeLine ∧ rNewStrs (Txt.split a b) H Q
section
variable {X : Cx} {K : PySem.W.Frag}
theorem pe_splitF {o e : Expr} {to te : TE} {apos pos : Pos} (ho : PE X o to) (he : PE X e te) (hs : starEach [e] X.env = [(false, eval e X.env)])
    (hbase : attributeBase o "split" X.env (eval o X.env) = eval o X.env) (hline : (apos.endLine == pos.line) = true) : PE X (.Call (.Attribute o "split" apos) [e] [] pos) (tM1 rSplit to te) := pe_split ho he hs hbase hline
theorem pe_fs2 {v1 v2 : Expr} {t1 t2 : TE} {pos : Pos} (h1 : PE X v1 t1) (h2 : PE X v2 t2) : PE X (.JoinedStr [v1, v2] pos) (fun σ H Q => tJs [t1, t2] Str.empty σ H fun out H1 => Q (.str out) H1) := pe_joined (.cons h1 (.cons h2 .nil))
theorem pe_fs3 {v1 v2 v3 : Expr} {t1 t2 t3 : TE} {pos : Pos} (h1 : PE X v1 t1) (h2 : PE X v2 t2) (h3 : PE X v3 t3) : PE X (.JoinedStr [v1, v2, v3] pos) (fun σ H Q => tJs [t1, t2, t3] Str.empty σ H fun out H1 => Q (.str out) H1) := pe_joined (.cons h1 (.cons h2 (.cons h3 .nil)))
def rIntT : List V → Hp → VK → Prop := fun xs H Q => rInt xs H Q ∨ ∃ a n, xs = [.str a] ∧ PySem.intText? a = some n ∧ a.length ≤ 640 ∧ Q (.int n) H
theorem cl_intT : CallR X (.type "int") rIntT := cl_int.or call_int_str
def rStrI : List V → Hp → VK → Prop := fun xs H Q => ∃ i, xs = [.int i] ∧ i.natAbs.log2 < 1920 ∧ Q (.str (toString i)) H
theorem cl_strI : CallR X (.type "str") rStrI := call_str_int
/-- in: of texts, or of data in a list -/
def rInX (K : PySem.W.Frag) : R2 := fun x y H Q => rInStr x y H Q ∨ rInD K x y H Q
theorem km_inX (m : KMark K) (hK : X.K = K) {k : Nat} (hr : Room k X.A) {a b : Expr} {ta tb : TE} {pos : Pos} (ha : PE X a ta) (hb : PE X b tb) (hm : behindInMarks .In b = false) : PE X (.Compare a [.In] [b] pos) (tOp (rInX K) ta tb) := by
  subst hK
  exact pe_cmpR (op_inStr.or (op_inD (by have := Room.u64 hr; have := hr.un; omega))) ha hb hm
theorem kt_inX (m : KMark K) (hK : X.K = K) {k : Nat} (hr : Room k X.A) {a b : Expr} {ta tb : TE} {pos : Pos} (ha : PE X a ta) (hb : PE X b tb) (hm : behindInMarks .In b = false) : PT X (.Compare a [.In] [b] pos) (tTest (tOp (rInX K) ta tb)) := by
  subst hK
  exact pt_cmpR (op_inStr.or (op_inD (by have := Room.u64 hr; have := hr.un; omega))) ha hb hm
theorem km_indexD (m : KMark K) (hK : X.K = K) {k : Nat} (hr : Room k X.A) {o e : Expr} {te : TE} {t : TA} {apos cpos : Pos} (ho : PE X o te) (ha : PA X [e] t)
    (h1 : attributeBase o "index" X.env (eval o X.env) = eval o X.env)
    (h2 : ((backTo cpos (starEach [e] X.env)).all (fun x => !x.1) && (backToKw cpos (keywordEach [] X.env)).all (fun x => x.1.isSome) && decide (([e] : List Expr).length + ([] : List Keyword).length + (if ([] : List Keyword).isEmpty then 0 else 1) < 30)) = true)
    (h3 : (apos.endLine == cpos.line) = true) (h4 : starEach [e] X.env = (false, eval e X.env) :: starEach [] X.env) (h5 : (backTo cpos (starEach [] X.env)).any (·.1) = false) :
    PE X (.Call (.Attribute o "index" apos) [e] [] cpos) (tBM K "list" (rIndexD K) te t) := by
  subst hK
  exact pe_bm F.plainAttrs_list F.slot_list_index F.type_list_index (mt_indexD (by have := Room.u64 hr; have := hr.un; omega)) ho ha h1 h2 h3 h4 h5
end
section
variable {K : PySem.W.Frag} {env : En} {to te ta : TE} {P : En → PyData → Prop}
theorem ev_split (h : EvE K to env fun e1 d => ∃ a, d = .str a ∧ EvE K te e1 fun e2 f => ∃ b, f = .str b ∧ (b.length == 0) = false ∧ a.length + 2 ≤ sizeLine ∧ P e2 (strD (Txt.split a b))) : EvE K (tM1 rSplit to te) env P := fun B σ G H Q I q =>
  h B σ G H _ I fun x G1 H1 e1 d1 p1 x1 I1 r1 => by
    obtain ⟨a, rfl, p1⟩ := p1
    cases r1
    refine ⟨⟨a, rfl⟩, p1 B σ G1 H1 _ I1 fun y G2 H2 e2 d2 p2 x2 I2 r2 => ?_⟩
    obtain ⟨b, rfl, hb, hz, hp⟩ := p2
    cases r2
    refine ⟨a, b, rfl, rfl, hb, hz, fun p np => ?_⟩
    have n := I2.exH.fresh np
    exact q _ _ _ e2 _ hp ((x1.trans x2).trans (Ex.new n)) (I2.new np) (.lst upd_same (dd_strs _))
/-- the parts of an f-string -/
def EvJ (K : PySem.W.Frag) (ts : List TE) (acc : Str) (env : En) (P : En → Str → Prop) : Prop :=
  ∀ (B : Bs) (σ : L2.St) (G H : Hp) (Q : Str → Hp → Prop), EnvOk K B G H σ env → (∀ out G' H' e', P e' out → Ex G G' → EnvOk K B G' H' σ e' → Q out H') → tJs ts acc σ H Q
theorem ej_nil {acc : Str} {P : En → Str → Prop} (h : P env acc) : EvJ K [] acc env P := fun B σ G H Q I q => q acc G H env h (Ex.refl G) I
theorem ej_cons {t : TE} {ts : List TE} {acc : Str} {P : En → Str → Prop} (h : EvE K t env fun e1 d => ∃ y, d = .str y ∧ (acc ++ y).length ≤ sizeLine ∧ EvJ K ts (acc ++ y) e1 P) : EvJ K (t :: ts) acc env P := fun B σ G H Q I q =>
  h B σ G H _ I fun x G1 H1 e1 d1 p1 x1 I1 r1 => by
    obtain ⟨y, rfl, hz, p1⟩ := p1
    cases r1
    exact ⟨y, rfl, hz, p1 B σ G1 H1 Q I1 fun out G2 H2 e2 p2 x2 I2 => q out G2 H2 e2 p2 (x1.trans x2) I2⟩
theorem ev_fs {ts : List TE} (h : EvJ K ts Str.empty env fun e1 y => P e1 (.str y)) : EvE K (fun σ H Q => tJs ts Str.empty σ H fun out H1 => Q (.str out) H1) env P := fun B σ G H Q I q =>
  h B σ G H _ I fun out G1 H1 e1 p1 x1 I1 => q _ G1 H1 e1 _ p1 x1 I1 (.str _)
theorem ev_fmtS (h : EvE K te env fun e1 d => ∃ y, d = .str y ∧ y.length ≤ sizeLine ∧ P e1 (.str y)) : EvE K (tFmt te) env P := fun B σ G H Q I q =>
  h B σ G H _ I fun x G1 H1 e1 d1 p1 x1 I1 r1 => by
    obtain ⟨y, rfl, hz, hp⟩ := p1
    cases r1
    exact .inl ⟨y, rfl, hz, q _ G1 H1 e1 _ hp x1 I1 (.str _)⟩
theorem ev_fmtI (h : EvE K te env fun e1 d => ∃ i : Int, d = .int i ∧ i.natAbs.log2 < 1920 ∧ P e1 (.str (toString i))) : EvE K (tFmt te) env P := fun B σ G H Q I q =>
  h B σ G H _ I fun x G1 H1 e1 d1 p1 x1 I1 r1 => by
    obtain ⟨y, rfl, hz, hp⟩ := p1
    cases r1
    exact .inr ⟨y, rfl, hz, q _ G1 H1 e1 _ hp x1 I1 (.str _)⟩
theorem rs_str {z : Str} {lo hi : Option Int} {P : PyData → Prop} (hz : z.length ≤ sizeLine) (p : P (.str (cutS z lo hi))) : RS K (rSlice K) env (.str z) lo hi P := fun B σ G H x Q I rx q => by
  cases rx
  exact .inr (.inr ⟨z, rfl, hz, q _ G H _ p (Ex.refl G) I (.str _)⟩)
theorem rc_intT {i : Int} {P : PyData → Prop} (p : P (.int i)) : RC K rIntT env [.int i] P := rc_keep p fun G H xs Q x1 rx q => by
  obtain ⟨x, rfl, h⟩ := rx.one
  cases h
  exact .inl (.inl ⟨i, rfl, q _ (.int _)⟩)
theorem rc_intTB {b : Bool} {P : PyData → Prop} (p : P (.int (if b then 1 else 0))) : RC K rIntT env [.bool b] P := rc_keep p fun G H xs Q x1 rx q => by
  obtain ⟨x, rfl, h⟩ := rx.one
  cases h
  exact .inl (.inr ⟨b, rfl, q _ (.int _)⟩)
theorem rc_intTS {a : Str} {n : Int} {P : PyData → Prop} (h1 : PySem.intText? a = some n) (h2 : a.length ≤ 640) (p : P (.int n)) : RC K rIntT env [.str a] P := rc_keep p fun G H xs Q x1 rx q => by
  obtain ⟨x, rfl, h⟩ := rx.one
  cases h
  exact .inr ⟨a, n, rfl, h1, h2, q _ (.int _)⟩
theorem rc_strI {i : Int} {P : PyData → Prop} (h : i.natAbs.log2 < 1920) (p : P (.str (toString i))) : RC K rStrI env [.int i] P := rc_keep p fun G H xs Q x1 rx q => by
  obtain ⟨x, rfl, h⟩ := rx.one
  cases h
  exact ⟨i, rfl, ‹_›, q _ (.str _)⟩
theorem rd_inXS {i j : Str} {P : PyData → Prop} (p : P (.bool (!(Builtin.Str.occurrences j i 0 j.length 1).isEmpty))) : RD K (rInX K) env (.str i) (.str j) P := rd_keep p fun G H x y Q x1 rx ry q => by
  cases rx; cases ry; exact .inl ⟨i, j, rfl, rfl, q _ (.bl _)⟩
theorem rd_inXD {d : PyData} {ds : List PyData} {P : PyData → Prop} (hd : eqOk d = true) (hs : eqOk (.list ds) = true) (p : P (.bool (ds.any fun z => PyData.eqv z d))) : RD K (rInX K) env d (.list ds) P := rd_keep p fun G H x y Q x1 rx ry q => by
  have n1 : noDict d = true ∧ SeqAt.shaped d = true := by simpa [eqOk] using hd
  have n2 : noDict (.list ds) = true ∧ SeqAt.shaped (.list ds) = true := by simpa [eqOk] using hs
  exact .inr ⟨d, ds, Dd.dp d x n1.1 (rx.ex x1), Dd.dp _ y n2.1 (ry.ex x1), n1.2, n2.2, q _ (.bl _)⟩
theorem ev_indexD (h : EvE K te env fun e1 d => ∃ ds : List PyData, d = .list ds ∧ eqOk (.list ds) = true ∧ EvE K ta e1 fun e2 f => eqOk f = true ∧ ∃ (j : Nat) (z : PyData), ds[j]? = some z ∧ PyData.eqv z f = true ∧ (∀ (m : Nat) (z' : PyData), m < j → ds[m]? = some z' → PyData.eqv z' f = false) ∧ P e2 (.int (j : Nat))) :
    EvE K (tBM K "list" (rIndexD K) te (tCons ta tNil)) env P := fun B σ G H Q I q =>
  h B σ G H _ I fun x G1 H1 e1 d1 p1 x1 I1 r1 => by
    obtain ⟨ds, rfl, hs, p1⟩ := p1
    have n2 : noDict (.list ds) = true ∧ SeqAt.shaped (.list ds) = true := by simpa [eqOk] using hs
    cases r1 with
    | lst h1 r1 =>
      rename_i a xs
      refine ⟨.inl ⟨rfl, _, SqL.of (I1.exH _ _ h1)⟩, ?_⟩
      refine p1 B σ G1 H1 _ I1 fun y G2 H2 e2 d2 p2 x2 I2 r2 => ?_
      obtain ⟨hf, j, z, hz, he, hno, hp⟩ := p2
      have n1 : noDict d2 = true ∧ SeqAt.shaped d2 = true := by simpa [eqOk] using hf
      exact ⟨_, y, d2, ds, j, z, rfl, rfl, Dd.dp (K := K) _ _ n2.1 (.lst (I2.exH _ _ (x2 _ _ h1)) ((r1.ex x2).ex I2.exH)), Dd.dp d2 y n1.1 (r2.ex I2.exH), n2.2, n1.2, hz, he, hno, q _ G2 H2 e2 _ hp (x1.trans x2) I2 (.int _)⟩
end
end FD

set_option Elab.async false
set_option linter.all false
set_option maxRecDepth 100000
set_option maxHeartbeats 4000000
namespace FD
open PySem PySem.Spec PyProof.Rows L2
/-! ### [e for k, x in enumerate(xs)] -/
section
variable {K : PySem.W.Frag} {env : En} {O : Outs} {te : TE} {t : TS} {Pl : En → List PyData → Prop}
theorem ev_enum2 {wi : TI} {tt : TT} {i j : Nat} {P : En → PyData → Prop} {xs : List PyData} (p : Nat → Bool) (F : Nat → PyData) (h0 : EvIE K wi env fun e1 ys => e1 = env ∧ ys = xs) (he0 : ∀ k s, env[k]? = some (some s) → k ∉ [i, j]) (he : wipeE env [i, j] = env)
    (hey : ∀ a b, wipeE ((env.set i (some (.dat a))).set j (some (.dat b))) [i, j] = env) (hl : xs.length ≤ 100000)
    (hel : ∀ (n : Nat) (d : PyData), xs[n]? = some d → EvB K tt ((env.set i (some (.dat (.int (n : Nat))))).set j (some (.dat d))) fun e b1 => e = (env.set i (some (.dat (.int (n : Nat))))).set j (some (.dat d)) ∧ b1 = p n ∧ (b1 = true → EvE K te e fun e2 y => e2 = e ∧ y = F n))
    (q : P env (.list (((List.range xs.length).filter p).map F))) : EvE K (tLc wi (gTup K 2 (gCons (gName i) (gCons (gName j) gNil))) tt te [i, j]) env P := fun B σ G H Q I qq => by
  refine h0 B σ G H _ I fun J G1 H1 e1 ys ⟨p1, p2⟩ x1 I1 jk D nD => ?_
  subst p1 p2
  have gD : G1 D = none := I1.exH.fresh nD
  obtain ⟨bD, sD⟩ := I1.fresh nD
  have mD : ¬ B.mu D := fun m => by obtain ⟨o, ho⟩ := I1.mus D m; rw [bD] at ho; cases ho
  have gB : B.G D = none := I1.exG.fresh gD
  have big : (100000 : Nat) < sizeLine := by decide
  have start : EnvOk K ⟨upd B.H D (.lst []), B.G, B.mu⟩ G1 (upd H1 D (.lst [])) (wipe σ [i, j]) e1 := by
    have := (I1.more (o := .lst []) nD).wiped [i, j]
    rw [he] at this
    exact EnvOk.hide this upd_same gD sD mD
  let St := fun (n : Nat) (H2 : Hp) => n ≤ ys.length ∧ ∃ (G2 : Hp) (av : List V), Ex G1 G2 ∧ DdAll G2 av (((List.range n).filter p).map F) ∧ EnvOk K ⟨upd B.H D (.lst av), B.G, B.mu⟩ G2 H2 (wipe σ [i, j]) e1
  refine ⟨fun n m H2 => m = ys.length - n ∧ St n H2, ⟨_, rfl, Nat.zero_le _, G1, [], Ex.refl _, .nil, start⟩, ?_⟩
  rintro n m H2 ⟨rfl, hn, G2, av, x2, ra, I2⟩
  obtain ⟨jg, js⟩ := jk G2 H2 x2 I2.exH
  by_cases hlt : n < ys.length
  · obtain ⟨go, yl⟩ := jg n hlt
    refine .inr ⟨go, St (n + 1), fun H3 s3 => ⟨ys.length - (n + 1), by omega, rfl, s3⟩, fun v H3 y => ?_⟩
    obtain ⟨T, x, dd, rfl, nT, rfl, hd, rd⟩ := yl v H3 y
    have ev := hel n dd hd
    have few : av.length < sizeLine := by
      rw [ra.length, List.length_map]
      have := List.length_filter_le p (List.range n)
      rw [List.length_range] at this
      omega
    have gT : G2 T = none := I2.exH.fresh nT
    have x3 : Ex G2 (upd G2 T (.tup [.int (n : Nat), x])) := Ex.new gT
    have I2' := I2.new (o := .tup [.int (n : Nat), x]) nT
    have I3 := (I2'.setD (i := i) (.int (n : Nat))).setD (i := j) (rd.ex x3)
    have bk : wipe (((wipe σ [i, j]).set i (some (.int (n : Nat)))).set j (some x)) [i, j] = wipe σ [i, j] := by rw [wipe_set (by simp), wipe_set (by simp), wipe_sub fun _ z => z]
    refine ⟨T, _, rfl, SqT.of upd_same, rfl, _, _, rfl, _, _, rfl, rfl, bk, ?_⟩
    refine ev _ _ _ _ _ I3 fun bb G4 H4 e4 ⟨s1, s2, s3⟩ x4 I4 => ?_
    subst s1
    cases bb with
    | true =>
      refine iteT (s3 rfl _ _ G4 H4 _ I4 fun yv G5 H5 e5 yd ⟨p5, p6⟩ x5 I5 r5 => ?_)
      subst p5 p6
      have hD5 : H5 D = some (.lst av) := I5.keep D _ upd_same mD
      refine ⟨av, hD5, few, hlt, G5, av ++ [yv], ((x2.trans x3).trans x4).trans x5, ?_, ?_⟩
      · rw [List.range_succ, List.filter_append, List.map_append, List.filter_cons, ← s2]
        exact (ra.ex ((x3.trans x4).trans x5)).append (.cons r5 .nil)
      · have := (I5.rehide (o' := .lst (av ++ [yv])) bD mD gB).wiped [i, j]
        rw [bk, hey] at this
        exact this
    | false =>
      refine iteF ⟨hlt, G4, av, (x2.trans x3).trans x4, ?_, ?_⟩
      · rw [List.range_succ, List.filter_append, List.map_append, List.filter_cons, ← s2]
        show DdAll G4 av (_ ++ [])
        rw [List.append_nil]
        exact ra.ex (x3.trans x4)
      · have := I4.wiped [i, j]
        rw [bk, hey] at this
        exact this
  · have e : n = ys.length := by omega
    subst e
    obtain ⟨I6, hD5, gD5, sD5⟩ := I2.unhide bD mD gB
    have I7 := (I6.unwiped he0).freeze hD5 gD5 sD5 bD
    exact .inl ⟨js, qq _ _ _ _ _ q ((x1.trans x2).trans (Ex.new gD5)) I7 (.lst upd_same (ra.ex (Ex.new gD5)))⟩
end
end FD

set_option Elab.async false
set_option linter.all false
set_option maxRecDepth 100000
set_option maxHeartbeats 4000000
namespace FD
open PySem PySem.Spec PyProof.Rows L2
/-! ### a sign, many times -/
def repS (a : Str) (k : Int) : Str := ⟨(List.replicate k.toNat a.cps).foldl (· ++ ·) #[]⟩
theorem foldl_app : ∀ (n : Nat) (a acc : Array Nat), ((List.replicate n a).foldl (· ++ ·) acc).size = acc.size + n * a.size
  | 0, a, acc => by simp
  | n + 1, a, acc => by
    rw [List.replicate_succ, List.foldl_cons, foldl_app n a, Array.size_append, Nat.succ_mul]
    omega
theorem repS_len (a : Str) (k : Int) : (repS a k).length = k.toNat * a.length := by
  show ((List.replicate k.toNat a.cps).foldl (· ++ ·) #[]).size = _
  rw [foldl_app]
  show 0 + _ = _
  rw [Nat.zero_add]; rfl
def rRepS : R2 := fun x y H Q => ∃ a k, x = .str a ∧ y = .int k ∧ a.length = 1 ∧ 2 ≤ k ∧ k ≤ 100 ∧ Q (.str (repS a k)) H
def rTimesS (K : PySem.W.Frag) : R2 := fun x y H Q => rTimes K x y H Q ∨ rRepS x y H Q
section
variable {X : Cx} {K : PySem.W.Frag} {a b : Expr} {ta tb : TE} {pos : Pos}
theorem op_repS : OpR X (binaryOp .Mult) rRepS := by
  intro pins s σ H x y v u Q I rx ry h
  obtain ⟨z, k, rfl, rfl, hz, h2, hk, q⟩ := h
  obtain ⟨t, rfl⟩ := rx
  obtain ⟨t', rfl⟩ := ry
  have n1 : ¬ k < 1 := by omega
  have n2 : ¬ ((k == 1 || z.length == 0) = true) := by
    rw [hz, Bool.or_eq_true, beq_iff_eq, beq_iff_eq]; omega
  have tl : z.length * k.toNat ≤ 100 := by rw [hz]; omega
  refine PySem.P.mul_str ?_ (fun _ _ hh => ?_) (fun _ _ => ?_) ?_
  · rw [Bool.or_eq_false_iff]
    exact ⟨decide_eq_false (by omega), decide_eq_false (by omega)⟩
  · rw [hz] at hh
    have : (1 : Int) ≤ (2 ^ 63 - 1) / k := Int.le_ediv_of_mul_le (by omega) (by omega)
    have hh' : (1 : Int) > (2 ^ 63 - 1) / k := hh
    omega
  · exact decide_eq_false (by have := sizeLine_eq; omega)
  · rw [if_neg n1, if_neg n2]
    have ln : (repS z k).length ≤ 100 := by rw [repS_len, hz]; omega
    exact ⟨Nat.le_trans ln (by rw [sizeLine_eq]; decide), .str (repS z k), H, I.tok _, ⟨_, rfl⟩, q⟩
theorem km_timesS (m : KMark K) (hK : X.K = K) (ha : PE X a ta) (hb : PE X b tb) : PE X (.BinOp a .Mult b pos) (tOp (rTimesS K) ta tb) := by
  subst hK
  exact pe_op (op_times.or op_repS) ha hb
end
section
variable {K : PySem.W.Frag} {env : En}
theorem rd_repS {i : Str} {j : Int} {P : PyData → Prop} (h1 : i.length = 1) (h2 : 2 ≤ j) (h3 : j ≤ 100) (p : P (.str (repS i j))) : RD K (rTimesS K) env (.str i) (.int j) P := rd_keep p fun G H x y Q x1 rx ry q => by
  cases rx; cases ry; exact .inr ⟨i, j, rfl, rfl, h1, h2, h3, q _ (.str _)⟩
end
/-! ### calls that let nothing out; a slot forgotten -/
def noW : WX := fun _ _ _ _ => False
theorem takes_no {X : Cx} : Takes X noW := fun u s' ⟨a, B, sI, pins, σ, H, cls, d, e, I, nb, up, sky, na, os, ag, w⟩ => w.elim
theorem with_tk {X : Cx} {ss : List Stmt} {t : TS} (h : Takes X noW → PSs X ss t) : PSs X ss t := h takes_no
section
variable {K : PySem.W.Frag} {W : WX} {C : Addr} {env : En} {O : Outs} {P : En → PyData → Prop} {te : TE} {ta : TA} {t : TS} {pre : List PyData → Prop} {post : List PyData → PyData → Prop} {exc : List PyData → Int → Prop} {n : Nat}
theorem ev_forget (i : Nat) (h : EvE K te (env.set i none) P) : EvE K te env P := fun B σ G H Q I q => h B σ G H Q (I.forget i) q
theorem es_forget (i : Nat) (h : EvS K t (env.set i none) O) : EvS K t env O := fun B σ G H D I => h B σ G H D (I.forget i)
theorem ev_callXN (h : EvAs K ta env fun e1 ds => ds.length = n ∧ pre ds ∧ (∀ d, post ds d → P e1 d) ∧ ∀ m, ¬ exc ds m) : EvE K (tCallX (spXN C n pre post exc) W ta) env P := fun B σ G H Q I q =>
  h B σ G H _ I fun vs G1 H1 e1 ds p1 x1 I1 r1 => ⟨G1, ds, I1.exH, r1, p1.1, p1.2.1, fun v G2 H2 dd pd x2 x3 x4 fr rd => q v G2 H2 e1 dd (p1.2.2.1 dd pd) (x1.trans x2) (I1.went x2 x3 x4 fr) rd, fun m _ _ _ pe _ _ _ _ _ => (p1.2.2.2 m pe).elim⟩
end
end FD

set_option maxRecDepth 100000
set_option maxHeartbeats 4000000
namespace K60
open PySem PySem.Spec PyProof.Rows L2 FD
/-! the steps: which rule a piece of syntax takes, what its reading asks -/
local macro_rules | `(tactic| fail "fA") => `(tactic| first
  | with_reducible exact pa_nil
  | ((with_reducible refine' pa_starS ?s0 ?q0 ?q1 ?s1); (case q0 => fail "fE"); (case q1 => fail "fA"); (case s0 => rfl); (case s1 => rfl))
  | ((with_reducible refine' pa_cons ?q0 ?q1 ?s0); (case q0 => fail "fE"); (case q1 => fail "fA"); (case s0 => rfl)))
local macro_rules | `(tactic| fail "fO") => `(tactic| first
  | with_reducible exact po_none
  | ((with_reducible refine' po_some ?q0); (case q0 => fail "fE")))
local macro_rules | `(tactic| fail "fI") => `(tactic| first
  | ((with_reducible refine' km_list ?mk ?hk (e := .Name "odd" _) ?q0); (case mk => assumption); (case hk => rfl); (case q0 => fail "fE"))
  | ((with_reducible refine' pi_enumS ?s0 ?q0 ?q1 ?s1 ?s2); (case q0 => (assumption)); (case q1 => fail "fA"); (case s0 => rfl); (case s1 => rfl); (case s2 => rfl))
  | ((with_reducible refine' km_list ?mk ?hk (e := .Name "views" _) ?q0); (case mk => assumption); (case hk => rfl); (case q0 => fail "fE"))
  | ((with_reducible refine' km_list ?mk ?hk (e := .Name "let" _) ?q0); (case mk => assumption); (case hk => rfl); (case q0 => fail "fE"))
  | ((with_reducible refine' km_list ?mk ?hk (e := .Name "seen" _) ?q0); (case mk => assumption); (case hk => rfl); (case q0 => fail "fE"))
  | ((with_reducible refine' km_list ?mk ?hk (e := .Name "ranges" _) ?q0); (case mk => assumption); (case hk => rfl); (case q0 => fail "fE"))
  | ((with_reducible refine' km_seq ?mk ?hk (e := .Name "told" _) ?q0); (case mk => assumption); (case hk => rfl); (case q0 => fail "fE"))
  | ((with_reducible refine' km_zip ?mk ?hk ?s0 ?q0 ?q1 ?s1 ?s2); (case mk => assumption); (case hk => rfl); (case q0 => (assumption)); (case q1 => fail "fA"); (case s0 => rfl); (case s1 => rfl); (case s2 => rfl))
  | ((with_reducible refine' pi_str (tg := .Name "sign" _) ?q0); (case q0 => fail "fE"))
  | ((with_reducible refine' pi_range1 ?s0 ?q0 ?q1 ?s1); (case q0 => (exact Bi.range (by assumption))); (case q1 => fail "fA"); (case s0 => rfl); (case s1 => rfl))
  | ((with_reducible refine' pi_range2 ?s0 ?q0 ?q1 ?s1 ?s2); (case q0 => (exact Bi.range (by assumption))); (case q1 => fail "fA"); (case s0 => rfl); (case s1 => rfl); (case s2 => rfl))
  | ((with_reducible refine' pi_str (e := .Constant _ _ _) ?q0); (case q0 => fail "fE"))
  | ((with_reducible refine' km_list ?mk ?hk (e := .Name "states" _) ?q0); (case mk => assumption); (case hk => rfl); (case q0 => fail "fE"))
  | ((with_reducible refine' km_list ?mk ?hk (e := .Name "rows" _) ?q0); (case mk => assumption); (case hk => rfl); (case q0 => fail "fE"))
  | ((with_reducible refine' km_list ?mk ?hk (e := .Name "others" _) ?q0); (case mk => assumption); (case hk => rfl); (case q0 => fail "fE"))
  | ((with_reducible refine' km_list ?mk ?hk (e := .Name "told" _) ?q0); (case mk => assumption); (case hk => rfl); (case q0 => fail "fE"))
  | ((with_reducible refine' km_seq ?mk ?hk (e := .Name "entries" _) ?q0); (case mk => assumption); (case hk => rfl); (case q0 => fail "fE"))
  | ((with_reducible refine' km_list ?mk ?hk (e := .Name "moving" _) ?q0); (case mk => assumption); (case hk => rfl); (case q0 => fail "fE"))
  | ((with_reducible refine' km_list ?mk ?hk (e := .Name "kinds" _) ?q0); (case mk => assumption); (case hk => rfl); (case q0 => fail "fE"))
  | ((with_reducible refine' km_list ?mk ?hk (e := .Name "far" _) ?q0); (case mk => assumption); (case hk => rfl); (case q0 => fail "fE"))
  | ((with_reducible refine' km_list ?mk ?hk (e := .Name "odds" _) ?q0); (case mk => assumption); (case hk => rfl); (case q0 => fail "fE"))
  | ((with_reducible refine' km_list ?mk ?hk (e := .Name "some" _) ?q0); (case mk => assumption); (case hk => rfl); (case q0 => fail "fE"))
  | ((with_reducible refine' km_list ?mk ?hk (e := .Name "gaps" _) ?q0); (case mk => assumption); (case hk => rfl); (case q0 => fail "fE"))
  | ((with_reducible refine' km_list ?mk ?hk (e := .Name "names" _) ?q0); (case mk => assumption); (case hk => rfl); (case q0 => fail "fE"))
  | ((with_reducible refine' pi_str (e := .Name "letters" _) ?q0); (case q0 => fail "fE"))
  | ((with_reducible refine' km_list ?mk ?hk (e := .Subscript _ (.Slice (some _) none _ _) _) ?q0); (case mk => assumption); (case hk => rfl); (case q0 => fail "fE"))
  | ((with_reducible refine' km_list ?mk ?hk (e := .List _ _) ?q0); (case mk => assumption); (case hk => rfl); (case q0 => fail "fE"))
  | ((with_reducible refine' km_list ?mk ?hk (e := .Call _ _ _ _) ?q0); (case mk => assumption); (case hk => rfl); (case q0 => fail "fE"))
  | ((with_reducible refine' km_list ?mk ?hk (e := .BinOp _ _ _ _) ?q0); (case mk => assumption); (case hk => rfl); (case q0 => fail "fE"))
  | ((with_reducible refine' km_tup ?mk ?hk ?q0); (case mk => assumption); (case hk => rfl); (case q0 => fail "fE")))
local macro_rules | `(tactic| fail "fV") => `(tactic| first
  | ((with_reducible refine' pe_v ?q0 ?s0 ?q1 ?s1 ?s2); (case q0 => (with_reducible assumption)); (case q1 => (first | exact .inl rfl | exact .inr (.inl rfl) | exact .inr (.inr rfl))); (case s0 => rfl); (case s1 => decide); (case s2 => decide)))
local macro_rules | `(tactic| fail "fN") => `(tactic| first
  | ((with_reducible refine' pg_v ?q0 ?s0 ?s1 ?q1 ?q2); (case q0 => (with_reducible assumption)); (case q1 => (first | exact .inl rfl | exact .inr rfl)); (case q2 => (first | exact .inl rfl | exact .inr rfl)); (case s0 => assumption); (case s1 => rfl)))
local macro_rules | `(tactic| fail "fNT") => `(tactic| first
  | fail "fN"
  | ((with_reducible refine' km_gtup ?mk ?hk ?s0 ?q0 ?s1 ?s2); (case mk => assumption); (case hk => rfl); (case q0 => fail "fGs"); (case s0 => rfl); (case s1 => rfl); (case s2 => rfl)))
local macro_rules | `(tactic| fail "fGs") => `(tactic| first
  | with_reducible exact pgs_nil
  | ((with_reducible refine' pgs_cons ?q0 ?q1 ?s0); (case q0 => fail "fNT"); (case q1 => fail "fGs"); (case s0 => rfl)))
local macro_rules | `(tactic| fail "fG") => `(tactic| first
  | fail "fN"
  | ((with_reducible refine' km_gtup ?mk ?hk ?s0 ?q0 ?s1 ?s2); (case mk => assumption); (case hk => rfl); (case q0 => fail "fGs"); (case s0 => rfl); (case s1 => rfl); (case s2 => rfl))
  | ((with_reducible refine' pg_sub ?q0 ?q1 set_list ?q2); (case q0 => fail "fV"); (case q1 => fail "fE"); (case q2 => (intro _; rfl))))
local macro_rules | `(tactic| fail "fTs") => `(tactic| first
  | with_reducible exact pts_nil
  | ((with_reducible refine' pts_one ?q0); (case q0 => fail "fT")))
local macro_rules | `(tactic| fail "fL") => `(tactic| first
  | ((with_reducible refine' ks_lcN ?s1 ?s2 ?s0 (fun _ _ _ _ _ => ?q0) ?q4 ?q1 (fun _ _ _ _ _ => ?q2) (fun _ _ _ _ _ => ?q3) (fun _ => ?s3)); (case q0 => fail "fG"); (case q1 => fail "fI"); (case q2 => fail "fTs"); (case q3 => fail "fE"); (case q4 => (kernel_rfl)); (case s0 => assumption); (case s1 => rfl); (case s2 => rfl); (case s3 => rfl))
  | ((with_reducible refine' km_keys ?mk ?hk (iter := .Name "kept" _) ?s1 ?s0 (fun _ _ _ _ _ => ?q0) ?q3 ?q1 (fun _ _ _ _ _ => ?q2) (fun _ => ?s2)); (case mk => assumption); (case hk => rfl); (case q0 => fail "fN"); (case q1 => fail "fE"); (case q2 => fail "fE"); (case q3 => (kernel_rfl)); (case s0 => assumption); (case s1 => rfl); (case s2 => rfl))
  | ((with_reducible refine' km_lcTT ?mk ?hk ?s1 ?s0 (fun _ _ _ _ _ => ?q0) ?q4 ?q1 (fun _ _ _ _ _ => ?q2) (fun _ _ _ _ _ => ?q3) (fun _ => ?s2)); (case mk => assumption); (case hk => rfl); (case q0 => fail "fG"); (case q1 => fail "fI"); (case q2 => fail "fTs"); (case q3 => fail "fE"); (case q4 => (kernel_rfl)); (case s0 => assumption); (case s1 => rfl); (case s2 => rfl))
  | ((with_reducible refine' pe_lc1 ?s1 ?s0 (fun _ _ _ _ _ => ?q0) ?q4 ?q1 (fun _ _ _ _ _ => ?q2) (fun _ _ _ _ _ => ?q3) (fun _ => ?s2)); (case q0 => fail "fN"); (case q1 => fail "fI"); (case q2 => fail "fTs"); (case q3 => fail "fE"); (case q4 => (kernel_rfl)); (case s0 => assumption); (case s1 => rfl); (case s2 => rfl))
  | ((with_reducible refine' km_lcT ?mk ?hk ?s1 ?s0 (fun _ _ _ _ _ => ?q0) ?q3 ?q1 (fun _ _ _ _ _ => ?q2) (fun _ => ?s2)); (case mk => assumption); (case hk => rfl); (case q0 => fail "fG"); (case q1 => fail "fI"); (case q2 => fail "fE"); (case q3 => (kernel_rfl)); (case s0 => assumption); (case s1 => rfl); (case s2 => rfl)))
local macro_rules | `(tactic| fail "fC") => `(tactic| first
  | ((with_reducible refine' pe_splitF ?q0 ?q1 ?s0 ?s1 ?s2); (case q0 => fail "fE"); (case q1 => fail "fE"); (case s0 => rfl); (case s1 => rfl); (case s2 => rfl))
  | ((with_reducible refine' km_indexD ?mk ?hk (o := .Name "parts" _) ?s0 ?q0 ?q1 ?s1 ?s2 ?s3 ?s4 ?s5); (case mk => assumption); (case hk => rfl); (case q0 => fail "fE"); (case q1 => fail "fA"); (case s0 => assumption); (case s1 => rfl); (case s2 => rfl); (case s3 => rfl); (case s4 => rfl); (case s5 => rfl))
  | ((with_reducible refine' pe_callTy (x := "str") cl_strI ?s0 ?q0 bStr ?q1 ?s3 ?s4 ?s1 ?s2); (case q0 => (exact Bi.str (by assumption))); (case q1 => fail "fA"); (case s0 => rfl); (case s1 => rfl); (case s2 => rfl); (case s3 => decide); (case s4 => decide))
  | ((with_reducible refine' pe_callTy (x := "int") (e := .Name "word" _) cl_intT ?s0 ?q0 bInt ?q1 ?s3 ?s4 ?s1 ?s2); (case q0 => (exact Bi.int (by assumption))); (case q1 => fail "fA"); (case s0 => rfl); (case s1 => rfl); (case s2 => rfl); (case s3 => decide); (case s4 => decide))
  | ((with_reducible refine' pe_callB (x := "len") (e := .Name "known" _) (call_lenN ?s0 ?s1) ?s2 ?q0 PySem.boot_len ?q1 ?s5 ?s6 ?s3 ?s4); (case q0 => (exact Bi.len (by assumption))); (case q1 => fail "fA"); (case s0 => rfl); (case s1 => rfl); (case s2 => rfl); (case s3 => rfl); (case s4 => rfl); (case s5 => decide); (case s6 => decide))
  | ((with_reducible refine' km_isi2 ?mk ?hk (n := "list") (nm := "list") (n2 := "tuple") (nm2 := "tuple") ?q0 ?q1 bList ?q2 bTuple ?s0 ?s1 ?s2 ?q3 ?s3 ?s4 ?s5 ?s6 ?s7 ?s8 ?s9 ?s10 ?s11); (case mk => assumption); (case hk => rfl); (case q0 => (assumption)); (case q1 => (exact Bi.list (by assumption))); (case q2 => (exact Bi.tuple (by assumption))); (case q3 => fail "fE"); (case s0 => rfl); (case s1 => rfl); (case s2 => rfl); (case s3 => rfl); (case s4 => rfl); (case s5 => rfl); (case s6 => rfl); (case s7 => rfl); (case s8 => decide); (case s9 => decide); (case s10 => decide); (case s11 => decide))
  | ((with_reducible refine' ks_sortSetI (e := .Name "ends" _) ?s0 ?s1 ?s2 ?s3 ?q0 ?s4 ?q1 ?q2 ?s5 ?s6 ?s7); (case q0 => (exact Bi2.sorted (by assumption))); (case q1 => (exact Bi2.set (by assumption))); (case q2 => fail "fE"); (case s0 => rfl); (case s1 => rfl); (case s2 => rfl); (case s3 => rfl); (case s4 => rfl); (case s5 => rfl); (case s6 => rfl); (case s7 => rfl))
  | ((with_reducible refine' pe_callB (x := "sorted") (e := .Name "times" _) (cl_sortD ?s0) ?s1 ?q0 bSorted ?q1 ?s4 ?s5 ?s2 ?s3); (case q0 => (exact Bi2.sorted (by assumption))); (case q1 => fail "fA"); (case s0 => rfl); (case s1 => rfl); (case s2 => rfl); (case s3 => rfl); (case s4 => decide); (case s5 => decide))
  | ((with_reducible refine' km_join ?mk ?hk ?q0 ?q1 ?s0 ?s1 ?s2 ?s3 ?s4); (case mk => assumption); (case hk => rfl); (case q0 => fail "fE"); (case q1 => fail "fA"); (case s0 => rfl); (case s1 => rfl); (case s2 => rfl); (case s3 => rfl); (case s4 => rfl))
  | ((with_reducible refine' km_sindex ?mk ?hk (o := .Name "letters" _) ?q0 ?q1 ?s0 ?s1 ?s2 ?s3 ?s4); (case mk => assumption); (case hk => rfl); (case q0 => fail "fE"); (case q1 => fail "fA"); (case s0 => rfl); (case s1 => rfl); (case s2 => rfl); (case s3 => rfl); (case s4 => rfl))
  | ((with_reducible refine' km_index ?mk ?hk (o := .Name "unlike" _) ?q0 ?q1 ?s0 ?s1 ?s2 ?s3 ?s4); (case mk => assumption); (case hk => rfl); (case q0 => fail "fE"); (case q1 => fail "fA"); (case s0 => rfl); (case s1 => rfl); (case s2 => rfl); (case s3 => rfl); (case s4 => rfl))
  | ((with_reducible refine' km_sortSc1 ?mk ?hk ?s1 ?s2 ?s0 ?s3 ?q0 (fun _ _ _ _ _ => ?q1) ?q5 ?q2 (fun _ _ _ _ _ => ?q3) (fun _ _ _ _ _ => ?q4) (fun _ => ?s4)); (case mk => assumption); (case hk => rfl); (case q0 => (exact Bi2.sorted (by assumption))); (case q1 => fail "fN"); (case q2 => fail "fI"); (case q3 => fail "fTs"); (case q4 => fail "fE"); (case q5 => (kernel_rfl)); (case s0 => assumption); (case s1 => rfl); (case s2 => rfl); (case s3 => rfl); (case s4 => rfl))
  | ((with_reducible refine' km_lenSet ?mk ?hk ?s0 ?s1 ?s2 ?q0 ?s3 ?q1 ?q2 ?s4 ?s5 ?s6); (case mk => assumption); (case hk => rfl); (case q0 => (exact Bi.len (by assumption))); (case q1 => (exact Bi2.set (by assumption))); (case q2 => fail "fE"); (case s0 => rfl); (case s1 => rfl); (case s2 => rfl); (case s3 => rfl); (case s4 => rfl); (case s5 => rfl); (case s6 => rfl))
  | ((with_reducible refine' km_maxL ?mk ?hk ?s0 ?s1 ?q0 ?q1 ?s2 ?s3); (case mk => assumption); (case hk => rfl); (case q0 => (exact Bi.max (by assumption))); (case q1 => fail "fE"); (case s0 => rfl); (case s1 => rfl); (case s2 => rfl); (case s3 => rfl))
  | ((with_reducible refine' km_maxDef ?mk ?hk ?s0 ?s1 ?s2 ?q0 ?q1 ?q2 ?s3 ?s4 ?s5 ?s6 ?s7 ?s8); (case mk => assumption); (case hk => rfl); (case q0 => (exact Bi.max (by assumption))); (case q1 => fail "fE"); (case q2 => fail "fE"); (case s0 => assumption); (case s1 => rfl); (case s2 => rfl); (case s3 => rfl); (case s4 => rfl); (case s5 => rfl); (case s6 => rfl); (case s7 => rfl); (case s8 => rfl))
  | ((with_reducible refine' pe_callB (x := "len") (e := .BinOp _ .BitAnd _ _) cr_lenM ?s0 ?q0 PySem.boot_len ?q1 ?s3 ?s4 ?s1 ?s2); (case q0 => (exact Bi.len (by assumption))); (case q1 => fail "fA"); (case s0 => rfl); (case s1 => rfl); (case s2 => rfl); (case s3 => decide); (case s4 => decide))
  | ((with_reducible refine' km_isi ?mk ?hk (n := "int") (nm := "int") ?q0 ?q1 bInt ?s0 ?s1 ?q2 ?s2 ?s3 ?s4 ?s5 ?s6); (case mk => assumption); (case hk => rfl); (case q0 => assumption); (case q1 => (exact Bi.int (by assumption))); (case q2 => fail "fE"); (case s0 => rfl); (case s1 => rfl); (case s2 => rfl); (case s3 => rfl); (case s4 => rfl); (case s5 => decide); (case s6 => decide))
  | ((with_reducible refine' km_isi ?mk ?hk (n := "bool") (nm := "bool") ?q0 ?q1 bBool ?s0 ?s1 ?q2 ?s2 ?s3 ?s4 ?s5 ?s6); (case mk => assumption); (case hk => rfl); (case q0 => assumption); (case q1 => (exact Bi.bool (by assumption))); (case q2 => fail "fE"); (case s0 => rfl); (case s1 => rfl); (case s2 => rfl); (case s3 => rfl); (case s4 => rfl); (case s5 => decide); (case s6 => decide))
  | ((with_reducible refine' km_isi ?mk ?hk (n := "str") (nm := "str") ?q0 ?q1 bStr ?s0 ?s1 ?q2 ?s2 ?s3 ?s4 ?s5 ?s6); (case mk => assumption); (case hk => rfl); (case q0 => assumption); (case q1 => (exact Bi.str (by assumption))); (case q2 => fail "fE"); (case s0 => rfl); (case s1 => rfl); (case s2 => rfl); (case s3 => rfl); (case s4 => rfl); (case s5 => decide); (case s6 => decide))
  | ((with_reducible refine' km_isi ?mk ?hk (n := "tuple") (nm := "tuple") ?q0 ?q1 bTuple ?s0 ?s1 ?q2 ?s2 ?s3 ?s4 ?s5 ?s6); (case mk => assumption); (case hk => rfl); (case q0 => assumption); (case q1 => (exact Bi.tuple (by assumption))); (case q2 => fail "fE"); (case s0 => rfl); (case s1 => rfl); (case s2 => rfl); (case s3 => rfl); (case s4 => rfl); (case s5 => decide); (case s6 => decide))
  | ((with_reducible refine' km_isi ?mk ?hk (n := "list") (nm := "list") ?q0 ?q1 bList ?s0 ?s1 ?q2 ?s2 ?s3 ?s4 ?s5 ?s6); (case mk => assumption); (case hk => rfl); (case q0 => assumption); (case q1 => (exact Bi.list (by assumption))); (case q2 => fail "fE"); (case s0 => rfl); (case s1 => rfl); (case s2 => rfl); (case s3 => rfl); (case s4 => rfl); (case s5 => decide); (case s6 => decide))
  | ((with_reducible refine' km_isiVN ?mk ?hk (n := "ValueError") (nm := "ValueError") ?q0 ?q1 ?s5 ?s0 ?s1 ?q2 ?s2 ?s3 ?s4 ?s6 ?s7); (case mk => assumption); (case hk => rfl); (case q0 => (assumption)); (case q1 => (assumption)); (case q2 => fail "fE"); (case s0 => rfl); (case s1 => rfl); (case s2 => rfl); (case s3 => rfl); (case s4 => rfl); (case s5 => decide +kernel); (case s6 => decide); (case s7 => decide))
  | ((with_reducible refine' km_isiCN ?mk ?hk ?q0 ?q1 ?s0 ?s1 ?q2 ?s2 ?s3 ?s4 ?s5); (case mk => assumption); (case hk => rfl); (case q0 => (assumption)); (case q1 => (assumption)); (case q2 => fail "fE"); (case s0 => rfl); (case s1 => rfl); (case s2 => rfl); (case s3 => rfl); (case s4 => rfl); (case s5 => decide))
  | ((with_reducible refine' km_len ?mk ?hk ?s0 ?q0 ?q1 ?s1 ?s2); (case mk => assumption); (case hk => rfl); (case q0 => (exact Bi.len (by assumption))); (case q1 => fail "fA"); (case s0 => rfl); (case s1 => rfl); (case s2 => rfl))
  | ((with_reducible refine' km_all ?mk ?hk ?s0 ?s1 ?q0 ?q1 ?s2 ?s3); (case mk => assumption); (case hk => rfl); (case q0 => (exact Bi.all (by assumption))); (case q1 => fail "fA"); (case s0 => rfl); (case s1 => rfl); (case s2 => rfl); (case s3 => rfl))
  | ((with_reducible refine' km_repr ?mk ?hk ?s0 ?s1 ?s2 ?q0 ?q1 ?s3 ?s4); (case mk => assumption); (case hk => rfl); (case q0 => (exact Bi.repr (by assumption))); (case q1 => fail "fA"); (case s0 => assumption); (case s1 => assumption); (case s2 => rfl); (case s3 => rfl); (case s4 => rfl))
  | ((with_reducible refine' km_sum ?mk ?hk ?s0 ?s1 ?q0 ?q1 ?s2 ?s3); (case mk => assumption); (case hk => rfl); (case q0 => (exact Bi.sum (by assumption))); (case q1 => fail "fA"); (case s0 => rfl); (case s1 => rfl); (case s2 => rfl); (case s3 => rfl))
  | ((with_reducible refine' pe_callB (x := "max") (cl_max ?s0) ?s1 ?q0 bMax ?q1 ?s4 ?s5 ?s2 ?s3); (case q0 => (exact Bi.max (by assumption))); (case q1 => fail "fA"); (case s0 => rfl); (case s1 => rfl); (case s2 => rfl); (case s3 => rfl); (case s4 => decide); (case s5 => decide))
  | ((with_reducible refine' pe_callB (x := "min") (cl_min ?s0) ?s1 ?q0 bMin ?q1 ?s4 ?s5 ?s2 ?s3); (case q0 => (exact Bi.min (by assumption))); (case q1 => fail "fA"); (case s0 => rfl); (case s1 => rfl); (case s2 => rfl); (case s3 => rfl); (case s4 => decide); (case s5 => decide))
  | ((with_reducible refine' pe_callB (x := "divmod") cl_divmod ?s0 ?q0 bDivmod ?q1 ?s3 ?s4 ?s1 ?s2); (case q0 => (exact Bi3.divmod (by assumption))); (case q1 => fail "fA"); (case s0 => rfl); (case s1 => rfl); (case s2 => rfl); (case s3 => decide); (case s4 => decide))
  | ((with_reducible refine' ks_sortSc2L (elt := .Name "letter" _) ?s1 ?s2 ?s3 ?s4 ?s0 ?s5 ?q0 (fun _ _ _ _ _ => ?q1) ?q7 ?q2 (fun _ _ _ _ _ => ?q3) (fun _ _ _ _ _ => ?q4) (fun _ _ _ _ _ => ?q5) (fun _ _ _ _ _ => ?q6) (fun _ => ?s6) (fun _ _ => ?s7)); (case q0 => (exact Bi2.sorted (by assumption))); (case q1 => fail "fN"); (case q2 => fail "fI"); (case q3 => fail "fI"); (case q4 => fail "fG"); (case q5 => fail "fTs"); (case q6 => fail "fE"); (case q7 => (kernel_rfl)); (case s0 => assumption); (case s1 => rfl); (case s2 => rfl); (case s3 => rfl); (case s4 => rfl); (case s5 => rfl); (case s6 => rfl); (case s7 => rfl))
  | ((with_reducible refine' km_sortSc2 ?mk ?hk ?s1 ?s2 ?s0 ?s3 ?q0 (fun _ _ _ _ _ => ?q1) ?q7 ?q2 (fun _ _ _ _ _ => ?q3) (fun _ _ _ _ _ => ?q4) (fun _ _ _ _ _ => ?q5) (fun _ _ _ _ _ => ?q6) (fun _ => ?s4) (fun _ _ => ?s5)); (case mk => assumption); (case hk => rfl); (case q0 => (exact Bi2.sorted (by assumption))); (case q1 => fail "fN"); (case q2 => fail "fI"); (case q3 => fail "fI"); (case q4 => fail "fG"); (case q5 => fail "fTs"); (case q6 => fail "fE"); (case q7 => (kernel_rfl)); (case s0 => assumption); (case s1 => rfl); (case s2 => rfl); (case s3 => rfl); (case s4 => rfl); (case s5 => rfl))
  | ((with_reducible refine' km_setDef ?mk ?hk ?q2 ?q0 ?q1 ?s0 ?s1 ?s2 ?s3 ?s4); (case mk => assumption); (case hk => rfl); (case q0 => fail "fV"); (case q1 => fail "fA"); (case q2 => (exact Room.u1 (by assumption))); (case s0 => rfl); (case s1 => rfl); (case s2 => rfl); (case s3 => rfl); (case s4 => rfl))
  | ((with_reducible refine' pe_get2 ?q3 ?q0 ?q1 ?q2 ?s0 ?s1 ?s2 ?s3); (case q0 => fail "fV"); (case q1 => fail "fE"); (case q2 => fail "fE"); (case q3 => (exact Room.u1 (by assumption))); (case s0 => rfl); (case s1 => rfl); (case s2 => rfl); (case s3 => rfl))
  | ((with_reducible refine' pe_get1 ?q2 ?q0 ?q1 ?s0 ?s1 ?s2 ?s3); (case q0 => fail "fV"); (case q1 => fail "fE"); (case q2 => (exact Room.u1 (by assumption))); (case s0 => rfl); (case s1 => rfl); (case s2 => rfl); (case s3 => rfl))
  | ((with_reducible refine' km_append ?mk ?hk (o := .Call _ _ _ _) ?q0 ?q1 ?s0 ?s1 ?s2 ?s3 ?s4); (case mk => assumption); (case hk => rfl); (case q0 => fail "fE"); (case q1 => fail "fA"); (case s0 => rfl); (case s1 => rfl); (case s2 => rfl); (case s3 => rfl); (case s4 => rfl))
  | ((with_reducible refine' pe_callTy (x := "set") (cr_setI ?s0) ?s1 ?q0 bSet ?q1 ?s4 ?s5 ?s2 ?s3); (case q0 => (exact Bi2.set (by assumption))); (case q1 => fail "fA"); (case s0 => rfl); (case s1 => rfl); (case s2 => rfl); (case s3 => rfl); (case s4 => decide); (case s5 => decide))
  | ((with_reducible refine' pe_sortSet ?s0 ?s1 ?q0 ?s2 ?q1 ?q2 ?s3 ?s4); (case q0 => (exact Bi2.sorted (by assumption))); (case q1 => (exact Bi2.set (by assumption))); (case q2 => fail "fA"); (case s0 => rfl); (case s1 => rfl); (case s2 => rfl); (case s3 => rfl); (case s4 => rfl))
  | ((with_reducible refine' pe_callTy (x := "list") (e := .Subscript _ _ _) cl_listT ?s0 ?q0 bList ?q1 ?s3 ?s4 ?s1 ?s2); (case q0 => (exact Bi.list (by assumption))); (case q1 => fail "fA"); (case s0 => rfl); (case s1 => rfl); (case s2 => rfl); (case s3 => decide); (case s4 => decide))
  | ((with_reducible refine' pe_listS ?s0 ?s1 ?q0 ?q1 ?s2 ?s3); (case q0 => (exact Bi.list (by assumption))); (case q1 => fail "fA"); (case s0 => rfl); (case s1 => rfl); (case s2 => rfl); (case s3 => rfl))
  | ((with_reducible refine' pe_callTy (x := "int") cl_int ?s0 ?q0 bInt ?q1 ?s3 ?s4 ?s1 ?s2); (case q0 => (exact Bi.int (by assumption))); (case q1 => fail "fA"); (case s0 => rfl); (case s1 => rfl); (case s2 => rfl); (case s3 => decide); (case s4 => decide))
  | ((with_reducible refine' km_tuple ?mk ?hk ?s0 ?q0 ?q1 ?s1 ?s2); (case mk => assumption); (case hk => rfl); (case q0 => (exact Bi.tuple (by assumption))); (case q1 => fail "fA"); (case s0 => rfl); (case s1 => rfl); (case s2 => rfl))
  | ((with_reducible refine' pe_cl0 ?q0 ?s2 ?s3 ?s4 ?s5 ?s6 ?s0 ?s1 ?s8 ?s7 ?s9); (case q0 => (with_reducible assumption)); (case s0 => assumption); (case s1 => assumption); (case s2 => rfl); (case s3 => rfl); (case s4 => rfl); (case s5 => rfl); (case s6 => rfl); (case s7 => rfl); (case s8 => decide); (case s9 => decide))
  | ((with_reducible refine' pe_clX ?q0 ?q1 ?s3 ?s4 ?s5 ?s6 ?s7 ?s0 ?s1 ?s2 ?s8 ?q2 ?s11 ?s9 ?s10); (case q0 => (with_reducible assumption)); (case q1 => (with_reducible assumption)); (case q2 => fail "fA"); (case s0 => assumption); (case s1 => assumption); (case s2 => (first | decide | omega)); (case s3 => rfl); (case s4 => rfl); (case s5 => rfl); (case s6 => rfl); (case s7 => rfl); (case s8 => rfl); (case s9 => rfl); (case s10 => rfl); (case s11 => decide))
  | ((with_reducible refine' pe_cl ?q0 ?s3 ?s4 ?s5 ?s6 ?s7 ?s0 ?s1 ?s2 ?s8 ?q1 ?s11 ?s9 ?s10); (case q0 => (with_reducible assumption)); (case q1 => fail "fA"); (case s0 => assumption); (case s1 => assumption); (case s2 => (first | decide | omega)); (case s3 => rfl); (case s4 => rfl); (case s5 => rfl); (case s6 => rfl); (case s7 => rfl); (case s8 => rfl); (case s9 => rfl); (case s10 => rfl); (case s11 => decide)))
local macro_rules | `(tactic| fail "fP") => `(tactic| first
  | ((with_reducible refine' km_plus ?mk ?hk ?q0 ?q1); (case mk => assumption); (case hk => rfl); (case q0 => fail "fE"); (case q1 => fail "fE"))
  | ((with_reducible refine' pe_bitAnd ?q0 ?q1); (case q0 => fail "fE"); (case q1 => fail "fE"))
  | ((with_reducible refine' pe_minus ?q0 ?q1); (case q0 => fail "fE"); (case q1 => fail "fE"))
  | ((with_reducible refine' km_times ?mk ?hk ?q0 ?q1); (case mk => assumption); (case hk => rfl); (case q0 => fail "fE"); (case q1 => fail "fE"))
  | ((with_reducible refine' pe_rest ?q0 ?q1); (case q0 => fail "fE"); (case q1 => fail "fE"))
  | ((with_reducible refine' pe_over ?q0 ?q1); (case q0 => fail "fE"); (case q1 => fail "fE"))
  | ((with_reducible refine' pe_power ?q0 ?q1); (case q0 => fail "fE"); (case q1 => fail "fE")))
local macro_rules | `(tactic| fail "fQ") => `(tactic| first
  | ((with_reducible refine' km_twoleG ?mk ?hk (a := .Name "entry" _) (b := .Subscript _ _ _) ?s0 ?q0 ?q1); (case mk => assumption); (case hk => rfl); (case q0 => fail "fE"); (case q1 => fail "fE"); (case s0 => assumption))
  | ((with_reducible refine' km_inQ ?mk ?hk (b := .Name "states" _) ?q0 ?q1 ?s0); (case mk => assumption); (case hk => rfl); (case q0 => fail "fE"); (case q1 => fail "fE"); (case s0 => rfl))
  | ((with_reducible refine' km_inQ ?mk ?hk (b := .ListComp _ _ _ _) ?q0 ?q1 ?s0); (case mk => assumption); (case hk => rfl); (case q0 => fail "fE"); (case q1 => fail "fE"); (case s0 => rfl))
  | ((with_reducible refine' km_inQ ?mk ?hk (b := .Name "every" _) ?q0 ?q1 ?s0); (case mk => assumption); (case hk => rfl); (case q0 => fail "fE"); (case q1 => fail "fE"); (case s0 => rfl))
  | ((with_reducible refine' kt_ninD ?mk ?hk (b := .Name "found" _) ?s0 ?q0 ?q1 ?s1); (case mk => assumption); (case hk => rfl); (case q0 => fail "fE"); (case q1 => fail "fE"); (case s0 => assumption); (case s1 => rfl))
  | ((with_reducible refine' km_twolt ?mk ?hk ?s0 ?q0 ?q1); (case mk => assumption); (case hk => rfl); (case q0 => fail "fE"); (case q1 => fail "fE"); (case s0 => assumption))
  | ((with_reducible refine' km_twole ?mk ?hk ?s0 ?q0 ?q1); (case mk => assumption); (case hk => rfl); (case q0 => fail "fE"); (case q1 => fail "fE"); (case s0 => assumption))
  | ((with_reducible refine' km_twogt ?mk ?hk ?s0 ?q0 ?q1); (case mk => assumption); (case hk => rfl); (case q0 => fail "fE"); (case q1 => fail "fE"); (case s0 => assumption))
  | ((with_reducible refine' km_twoge ?mk ?hk ?s0 ?q0 ?q1); (case mk => assumption); (case hk => rfl); (case q0 => fail "fE"); (case q1 => fail "fE"); (case s0 => assumption))
  | ((with_reducible refine' pe_lt ?q0 ?q1); (case q0 => fail "fE"); (case q1 => fail "fE"))
  | ((with_reducible refine' pe_le ?q0 ?q1); (case q0 => fail "fE"); (case q1 => fail "fE"))
  | ((with_reducible refine' pe_gt ?q0 ?q1); (case q0 => fail "fE"); (case q1 => fail "fE"))
  | ((with_reducible refine' pe_ge ?q0 ?q1); (case q0 => fail "fE"); (case q1 => fail "fE"))
  | ((with_reducible refine' pe_is ?q0 ?q1); (case q0 => fail "fE"); (case q1 => fail "fE"))
  | ((with_reducible refine' pe_isnt ?q0 ?q1); (case q0 => fail "fE"); (case q1 => fail "fE"))
  | ((with_reducible refine' km_pe_eq ?mk ?hk ?s0 ?q0 ?q1); (case mk => assumption); (case hk => rfl); (case q0 => fail "fE"); (case q1 => fail "fE"); (case s0 => assumption))
  | ((with_reducible refine' km_pe_ne ?mk ?hk ?s0 ?q0 ?q1); (case mk => assumption); (case hk => rfl); (case q0 => fail "fE"); (case q1 => fail "fE"); (case s0 => assumption))
  | ((with_reducible refine' pe_ins ?q0 ?q1 ?s0); (case q0 => fail "fE"); (case q1 => fail "fE"); (case s0 => rfl))
  | ((with_reducible refine' pe_nins ?q0 ?q1 ?s0); (case q0 => fail "fE"); (case q1 => fail "fE"); (case s0 => rfl))
  | ((with_reducible refine' pe_lele ?q0 ?q1 ?q2 ?q3); (case q0 => fail "fE"); (case q1 => fail "fE"); (case q2 => fail "fE"); (case q3 => (with_unfolding_all rfl))))
local macro_rules | `(tactic| fail "fE") => `(tactic| first
  | with_reducible exact pe_int
  | ((with_reducible refine' pe_fs3 ?q0 ?q1 ?q2); (case q0 => fail "fE"); (case q1 => fail "fE"); (case q2 => fail "fE"))
  | ((with_reducible refine' pe_fs2 ?q0 ?q1); (case q0 => fail "fE"); (case q1 => fail "fE"))
  | ((with_reducible refine' pe_fmt ?q0); (case q0 => fail "fE"))
  | ((with_reducible refine' km_line ?mk ?hk (e := .Name _ _) ?q0 ?s0); (case mk => assumption); (case hk => rfl); (case q0 => fail "fE"); (case s0 => rfl))
  | ((with_reducible refine' km_inX ?mk ?hk (a := .Constant .none _ _) ?s0 ?q0 ?q1 ?s1); (case mk => assumption); (case hk => rfl); (case q0 => fail "fE"); (case q1 => fail "fE"); (case s0 => assumption); (case s1 => rfl))
  | ((with_reducible refine' km_timesS ?mk ?hk (a := .Constant (.str _) _ _) ?q0 ?q1); (case mk => assumption); (case hk => rfl); (case q0 => fail "fE"); (case q1 => fail "fE"))
  | with_reducible exact pe_str
  | with_reducible exact pe_non
  | with_reducible exact pe_bl
  | with_reducible exact pe_dnewK
  | with_reducible exact pe_disp1
  | fail "fV"
  | ((with_reducible refine' pe_glob (x := "MOST_FIGURES") (v := .int 30) ?s0 ?q0 ?q1 ?s1); (case q0 => (assumption)); (case q1 => (exact ⟨_, rfl⟩)); (case s0 => rfl); (case s1 => decide))
  | ((with_reducible refine' pe_glob (x := "NOT_COME") (v := .int (-1)) ?s0 ?q0 ?q1 ?s1); (case q0 => (assumption)); (case q1 => (exact ⟨_, rfl⟩)); (case s0 => rfl); (case s1 => decide))
  | ((with_reducible refine' pe_neg ?q0); (case q0 => fail "fE"))
  | fail "fP"
  | fail "fQ"
  | ((with_reducible refine' pe_and ?q0 ?q1); (case q0 => fail "fE"); (case q1 => fail "fE"))
  | ((with_reducible refine' pe_orS (a := .Name "letters" _) ?q0 ?q1); (case q0 => fail "fE"); (case q1 => fail "fE"))
  | ((with_reducible refine' pe_or ?q0 ?q1); (case q0 => fail "fE"); (case q1 => fail "fE"))
  | ((with_reducible refine' pe_one ?q0); (case q0 => fail "fE"))
  | ((with_reducible refine' pe_not ?q0); (case q0 => fail "fE"))
  | ((with_reducible refine' pe_ifExp ?q0 ?q1 ?q2); (case q0 => fail "fT"); (case q1 => fail "fE"); (case q2 => fail "fE"))
  | ((with_reducible refine' km_revT ?mk ?hk ?q0); (case mk => assumption); (case hk => rfl); (case q0 => fail "fE"))
  | ((with_reducible refine' km_slice ?mk ?hk ?q0 ?q1 ?q2); (case mk => assumption); (case hk => rfl); (case q0 => fail "fE"); (case q1 => fail "fO"); (case q2 => fail "fO"))
  | ((with_reducible refine' pe_dget (o := .Name "times" _) ?q2 ?q0 ?q1 ?q3); (case q0 => fail "fV"); (case q1 => fail "fE"); (case q2 => (exact Room.u1 (by assumption))); (case q3 => (exact fun _ _ => rfl)))
  | ((with_reducible refine' pe_getN (o := .Name "known" _) ?s0 ?s1 ?s2 ?q0 ?q1 ?q2); (case q0 => fail "fV"); (case q1 => fail "fE"); (case q2 => (exact fun _ _ => rfl)); (case s0 => assumption); (case s1 => rfl); (case s2 => rfl))
  | ((with_reducible refine' km_ix ?mk ?hk ?q0 ?q1 ?q2); (case mk => assumption); (case hk => rfl); (case q0 => fail "fE"); (case q1 => fail "fE"); (case q2 => (exact fun _ _ => rfl)))
  | fail "fC"
  | ((with_reducible refine' km_append ?mk ?hk ?q0 ?q1 ?s0 ?s1 ?s2 ?s3 ?s4); (case mk => assumption); (case hk => rfl); (case q0 => fail "fV"); (case q1 => fail "fA"); (case s0 => rfl); (case s1 => rfl); (case s2 => rfl); (case s3 => rfl); (case s4 => rfl))
  | ((with_reducible refine' pe_lst ?q0); (case q0 => fail "fA"))
  | ((with_reducible refine' pe_tup ?q0); (case q0 => fail "fA"))
  | fail "fL")
local macro_rules | `(tactic| fail "fT") => `(tactic| first
  | ((with_reducible refine' kt_inX ?mk ?hk (a := .Constant .none _ _) ?s0 ?q0 ?q1 ?s1); (case mk => assumption); (case hk => rfl); (case q0 => fail "fE"); (case q1 => fail "fE"); (case s0 => assumption); (case s1 => rfl))
  | ((with_reducible refine' pt_cmp (pc_notN (o := .Name "known" _) ?s0 ?s1 ?s2 ?q0 ?q1) ?s3); (case q0 => fail "fE"); (case q1 => fail "fV"); (case s0 => assumption); (case s1 => rfl); (case s2 => rfl); (case s3 => rfl))
  | ((with_reducible refine' pt_cmp (pc_din (o := .Name "times" _) ?q2 ?q0 ?q1) ?s0); (case q0 => fail "fE"); (case q1 => fail "fE"); (case q2 => (exact Room.u1 (by assumption))); (case s0 => rfl))
  | ((with_reducible refine' kt_tru ?mk ?hk (a := .Name "events" _) ?q0 (fun _ => ?s0)); (case mk => assumption); (case hk => rfl); (case q0 => fail "fE"); (case s0 => rfl))
  | ((with_reducible refine' kt_tru ?mk ?hk (a := .Name "moving" _) ?q0 (fun _ => ?s0)); (case mk => assumption); (case hk => rfl); (case q0 => fail "fE"); (case s0 => rfl))
  | ((with_reducible refine' kt_tru ?mk ?hk (a := .Name "against" _) ?q0 (fun _ => ?s0)); (case mk => assumption); (case hk => rfl); (case q0 => fail "fE"); (case s0 => rfl))
  | ((with_reducible refine' kt_inQ ?mk ?hk (b := .Name "states" _) ?q0 ?q1 ?s0); (case mk => assumption); (case hk => rfl); (case q0 => fail "fE"); (case q1 => fail "fE"); (case s0 => rfl))
  | ((with_reducible refine' kt_inQ ?mk ?hk (b := .ListComp _ _ _ _) ?q0 ?q1 ?s0); (case mk => assumption); (case hk => rfl); (case q0 => fail "fE"); (case q1 => fail "fE"); (case s0 => rfl))
  | ((with_reducible refine' kt_inQ ?mk ?hk (b := .Name "every" _) ?q0 ?q1 ?s0); (case mk => assumption); (case hk => rfl); (case q0 => fail "fE"); (case q1 => fail "fE"); (case s0 => rfl))
  | ((with_reducible refine' kt_ninD ?mk ?hk (b := .Name "found" _) ?s0 ?q0 ?q1 ?s1); (case mk => assumption); (case hk => rfl); (case q0 => fail "fE"); (case q1 => fail "fE"); (case s0 => assumption); (case s1 => rfl))
  | ((with_reducible refine' pt_lt ?q0 ?q1); (case q0 => fail "fE"); (case q1 => fail "fE"))
  | ((with_reducible refine' pt_le ?q0 ?q1); (case q0 => fail "fE"); (case q1 => fail "fE"))
  | ((with_reducible refine' pt_gt ?q0 ?q1); (case q0 => fail "fE"); (case q1 => fail "fE"))
  | ((with_reducible refine' pt_ge ?q0 ?q1); (case q0 => fail "fE"); (case q1 => fail "fE"))
  | ((with_reducible refine' pt_is ?q0 ?q1); (case q0 => fail "fE"); (case q1 => fail "fE"))
  | ((with_reducible refine' pt_isnt ?q0 ?q1); (case q0 => fail "fE"); (case q1 => fail "fE"))
  | ((with_reducible refine' km_pt_eq ?mk ?hk ?s0 ?q0 ?q1); (case mk => assumption); (case hk => rfl); (case q0 => fail "fE"); (case q1 => fail "fE"); (case s0 => assumption))
  | ((with_reducible refine' km_pt_ne ?mk ?hk ?s0 ?q0 ?q1); (case mk => assumption); (case hk => rfl); (case q0 => fail "fE"); (case q1 => fail "fE"); (case s0 => assumption))
  | ((with_reducible refine' pt_ins ?q0 ?q1 ?s0); (case q0 => fail "fE"); (case q1 => fail "fE"); (case s0 => rfl))
  | ((with_reducible refine' pt_nins ?q0 ?q1 ?s0); (case q0 => fail "fE"); (case q1 => fail "fE"); (case s0 => rfl))
  | ((with_reducible refine' pt_lele ?q0 ?q1 ?q2 ?q3); (case q0 => fail "fE"); (case q1 => fail "fE"); (case q2 => fail "fE"); (case q3 => (with_unfolding_all rfl)))
  | ((with_reducible refine' pt_cmp (pc_dnotin ?q2 ?q0 ?q1) ?s0); (case q0 => fail "fE"); (case q1 => fail "fE"); (case q2 => (exact Room.u1 (by assumption))); (case s0 => rfl))
  | ((with_reducible refine' pt_not ?q0); (case q0 => fail "fT"))
  | ((with_reducible refine' PW.pt ?q0); (case q0 => fail "fW"))
  | ((with_reducible refine' pt_val ?q0 ?q1); (case q0 => fail "fE"); (case q1 => (intro _; rfl))))
local macro_rules | `(tactic| fail "fW") => `(tactic| first
  | ((with_reducible refine' pw_and ?q0 ?q1); (case q0 => fail "fT"); (case q1 => fail "fW"))
  | ((with_reducible refine' pw_or ?q0 ?q1); (case q0 => fail "fT"); (case q1 => fail "fW"))
  | ((with_reducible refine' pw_and1 ?q0); (case q0 => fail "fT"))
  | ((with_reducible refine' pw_or1 ?q0); (case q0 => fail "fT")))
local macro_rules | `(tactic| fail "fS") => `(tactic| first
  | ((with_reducible refine' ps_putN (o := .Name "known" _) ?s0 ?s1 ?s2 ?q0 ?q1 ?q2 ?s3); (case q0 => fail "fV"); (case q1 => fail "fE"); (case q2 => fail "fE"); (case s0 => assumption); (case s1 => rfl); (case s2 => rfl); (case s3 => rfl))
  | ((with_reducible refine' ks_slcN ?s1 ?s2 ?s0 ?q4 ?s3 ?s4 ?s5 ?s6 ?s7 (fun _ _ _ _ _ => ?q0) ?q5 ?q1 (fun _ _ _ _ _ => ?q2) (fun _ _ _ _ _ => ?q3) (fun _ => ?s8)); (case q0 => fail "fG"); (case q1 => fail "fI"); (case q2 => fail "fTs"); (case q3 => fail "fE"); (case q4 => (with_reducible assumption)); (case q5 => (kernel_rfl)); (case s0 => assumption); (case s1 => rfl); (case s2 => rfl); (case s3 => rfl); (case s4 => rfl); (case s5 => rfl); (case s6 => rfl); (case s7 => rfl); (case s8 => rfl))
  | ((with_reducible refine' km_slcTT ?mk ?hk ?s1 ?s0 ?q4 ?s2 ?s3 ?s4 ?s5 ?s6 (fun _ _ _ _ _ => ?q0) ?q5 ?q1 (fun _ _ _ _ _ => ?q2) (fun _ _ _ _ _ => ?q3) (fun _ => ?s7)); (case mk => assumption); (case hk => rfl); (case q0 => fail "fG"); (case q1 => fail "fI"); (case q2 => fail "fTs"); (case q3 => fail "fE"); (case q4 => (with_reducible assumption)); (case q5 => (kernel_rfl)); (case s0 => assumption); (case s1 => rfl); (case s2 => rfl); (case s3 => rfl); (case s4 => rfl); (case s5 => rfl); (case s6 => rfl); (case s7 => rfl))
  | ((with_reducible refine' ps_while PassesOwn.never ?q0 ?q1); (case q0 => fail "fT"); (case q1 => fail "fZ"))
  | ((with_reducible refine' ps_while (L2.passes_of rfl) ?q0 ?q1); (case q0 => fail "fT"); (case q1 => fail "fZ"))
  | ((with_reducible refine' ps_dput (o := .Name "kept" _) ?q3 ?q0 ?q1 ?q2 ?s0); (case q0 => fail "fV"); (case q1 => fail "fE"); (case q2 => fail "fE"); (case q3 => (exact Room.u1 (by assumption))); (case s0 => rfl))
  | ((with_reducible refine' km_slcT ?mk ?hk ?s1 ?s0 ?q3 ?s2 ?s3 ?s4 ?s5 ?s6 (fun _ _ _ _ _ => ?q0) ?q4 ?q1 (fun _ _ _ _ _ => ?q2) (fun _ => ?s7)); (case mk => assumption); (case hk => rfl); (case q0 => fail "fG"); (case q1 => fail "fI"); (case q2 => fail "fE"); (case q3 => (with_reducible assumption)); (case q4 => (kernel_rfl)); (case s0 => assumption); (case s1 => rfl); (case s2 => rfl); (case s3 => rfl); (case s4 => rfl); (case s5 => rfl); (case s6 => rfl); (case s7 => rfl))
  | ((with_reducible refine' ps_lockDc ?s1 ?s0 ?q5 ?s2 ?s3 ?s4 ?s5 ?s6 (fun _ _ _ _ _ => ?q0) ?q4 ?q1 (fun _ _ _ _ _ => ?q2) (fun _ _ _ _ _ => ?q3) (fun _ => ?s7)); (case q0 => fail "fN"); (case q1 => fail "fV"); (case q2 => fail "fE"); (case q3 => fail "fE"); (case q4 => (kernel_rfl)); (case q5 => (with_reducible assumption)); (case s0 => assumption); (case s1 => rfl); (case s2 => rfl); (case s3 => rfl); (case s4 => rfl); (case s5 => rfl); (case s6 => rfl); (case s7 => rfl))
  | ((with_reducible refine' ps_ret ?q0); (case q0 => fail "fE"))
  | ((with_reducible refine' ps_if ?q0 ?q1 ?q2); (case q0 => fail "fT"); (case q1 => fail "fZ"); (case q2 => fail "fZ"))
  | ((with_reducible refine' ps_dput (o := .Name "times" _) ?q3 ?q0 ?q1 ?q2 ?s0); (case q0 => fail "fV"); (case q1 => fail "fE"); (case q2 => fail "fE"); (case q3 => (exact Room.u1 (by assumption))); (case s0 => rfl))
  | ((with_reducible refine' ps_parv3 ?q0 ?q1 ?q2 ?s0 ?s1 ?s2 ?s8 ?s9 ?s10 ?s3 ?s4 ?s5 ?q3 ?s6 ?s7); (case q0 => (with_reducible assumption)); (case q1 => (with_reducible assumption)); (case q2 => (with_reducible assumption)); (case q3 => fail "fA"); (case s0 => assumption); (case s1 => rfl); (case s2 => rfl); (case s3 => rfl); (case s4 => rfl); (case s5 => rfl); (case s6 => rfl); (case s7 => rfl); (case s8 => decide); (case s9 => decide); (case s10 => decide))
  | ((with_reducible refine' ps_parv ?q0 ?q1 ?s0 ?s1 ?s2 ?s7 ?s3 ?s4 ?q2 ?s5 ?s6); (case q0 => (with_reducible assumption)); (case q1 => (with_reducible assumption)); (case q2 => fail "fA"); (case s0 => assumption); (case s1 => rfl); (case s2 => rfl); (case s3 => rfl); (case s4 => rfl); (case s5 => rfl); (case s6 => rfl); (case s7 => decide))
  | ((with_reducible refine' ps_asg ?q0 ?q1 ?s0 ?s1 ?s2); (case q0 => fail "fE"); (case q1 => fail "fG"); (case s0 => rfl); (case s1 => rfl); (case s2 => rfl))
  | ((with_reducible refine' ps_lc1 ?s1 ?s0 ?q5 ?s2 ?s3 ?s4 ?s5 ?s6 (fun _ _ _ _ _ => ?q0) ?q4 ?q1 (fun _ _ _ _ _ => ?q2) (fun _ _ _ _ _ => ?q3) (fun _ => ?s7)); (case q0 => fail "fN"); (case q1 => fail "fI"); (case q2 => fail "fTs"); (case q3 => fail "fE"); (case q4 => (kernel_rfl)); (case q5 => (with_reducible assumption)); (case s0 => assumption); (case s1 => rfl); (case s2 => rfl); (case s3 => rfl); (case s4 => rfl); (case s5 => rfl); (case s6 => rfl); (case s7 => rfl))
  | ((with_reducible refine' ps_for PassesOwn.never ?s0 ?q0 ?q1 ?q2 ?q3); (case q0 => fail "fI"); (case q1 => fail "fG"); (case q2 => fail "fZ"); (case q3 => (intro _; rfl)); (case s0 => rfl))
  | ((with_reducible refine' ps_for (L2.passes_of rfl) ?s0 ?q0 ?q1 ?q2 ?q3); (case q0 => fail "fI"); (case q1 => fail "fG"); (case q2 => fail "fZ"); (case q3 => (intro _; rfl)); (case s0 => rfl))
  | ((with_reducible refine' ps_expr ?q0 ?s0); (case q0 => fail "fE"); (case s0 => rfl))
  | with_reducible exact ps_pass
  | ((with_reducible refine' ps_tryRet (b₀ := .Return _ _) ?s0 ?s1 ?s2 ?q0 ?q1 ?s3 ?q2 (fun W pn xe tk po => ?q3) (fun a oe cls d pn hz hf => ?q4)); (case q0 => (assumption)); (case q1 => (assumption)); (case q2 => (exact ⟨rfl, by decide, .inl (by assumption)⟩)); (case q3 => fail "fZ"); (case q4 => fail "fZ"); (case s0 => rfl); (case s1 => rfl); (case s2 => rfl); (case s3 => rfl))
  | ((with_reducible refine' ps_raiseN ?s2 ?q0 ?s3 ?s4 ?s5 ?s6 ?s7 ?q1 ?s8 ?s0 ?s1 ?q2 ?s11 ?s9 ?s10); (case q0 => (with_reducible assumption)); (case q1 => (with_reducible assumption)); (case q2 => fail "fE"); (case s0 => assumption); (case s1 => (first | decide | omega)); (case s2 => rfl); (case s3 => rfl); (case s4 => rfl); (case s5 => rfl); (case s6 => rfl); (case s7 => rfl); (case s8 => rfl); (case s9 => rfl); (case s10 => rfl); (case s11 => decide))
  | ((with_reducible refine' ps_tryKeep ?s0 ?s1 ?s2 ?q0 ?q1 ?s3 ?q2 (fun W pn xe tk po => ?q3) (fun a oe cls d pn hz hf => ?q4)); (case q0 => (assumption)); (case q1 => (assumption)); (case q2 => (exact ⟨rfl, by decide, .inl (by assumption)⟩)); (case q3 => fail "fZ"); (case q4 => fail "fZ"); (case s0 => rfl); (case s1 => rfl); (case s2 => rfl); (case s3 => rfl))
  | ((with_reducible refine' ps_raiseC ?s0 ?s1 ?s2 ?q0 ?q1 ?s3 ?s4); (case q0 => (with_reducible assumption)); (case q1 => (with_reducible assumption)); (case s0 => rfl); (case s1 => rfl); (case s2 => rfl); (case s3 => rfl); (case s4 => decide))
  | with_reducible exact ps_never (st := .Raise _ _ _))
local macro_rules | `(tactic| fail "fZ") => `(tactic| first
  | with_reducible exact pss_nil
  | ((with_reducible refine' pss_one ?q0); (case q0 => fail "fS"))
  | ((with_reducible refine' pss_cons ?q0 ?q1); (case q0 => fail "fS"); (case q1 => fail "fZ")))
local macro_rules | `(tactic| fail "fTop") => `(tactic| (show PSs _ (_ :: _) _; fail "fZ"))
local macro_rules | `(tactic| fail "v1") => `(tactic| first
  | with_reducible refine ev_int ?_
  | with_reducible refine ev_str ?_
  | with_reducible refine ev_bl ?_
  | with_reducible refine ev_non ?_
  | ((with_reducible refine' ev_var ?zh ?znx); (case zh => rfl))
  | ((with_reducible refine' ev_pix ?zh ?znx); (case zh => rfl))
  | ((with_reducible refine' ev_sat ?zh ?znx); (case zh => rfl))
  | ((with_reducible refine' ev_slen ?zh ?znx); (case zh => rfl))
  | ((with_reducible refine' ev_ssum ?zh ?znx); (case zh => rfl))
  | with_reducible refine ev_op ?_
  | with_reducible refine ev_un ?_
  | with_reducible refine ev_isi (by decide) ?_
  | with_reducible refine ev_tup ?_
  | with_reducible refine ev_lst ?_
  | with_reducible refine ev_callF ?_
  | with_reducible refine ev_call ?_
  | ((with_reducible refine' ev_callP ?zh ?znx); (case zh => rfl))
  | with_reducible refine ev_cb ?_
  | with_reducible refine ev_sl ?_
  | with_reducible refine ev_revT ?_
  | with_reducible refine ev_dni ?_
  | with_reducible refine ev_dget ?_
  | with_reducible refine ev_and ?_
  | with_reducible refine ev_or ?_
  | with_reducible refine ev_not ?_
  | with_reducible refine ev_test ?_
  | with_reducible refine ev_tB ?_
  | with_reducible refine ev_if ?_
  | with_reducible refine ev_chain ?_
  | with_reducible refine eb_and ?_
  | with_reducible refine eb_or ?_
  | with_reducible refine eb_not ?_
  | with_reducible refine eb_yes ?_
  | with_reducible refine ea_nil ?_
  | with_reducible refine ea_cons ?_
  | with_reducible refine eo_none ?_
  | with_reducible refine eo_some ?_
  | with_reducible refine es_next ?_
  | with_reducible refine es_seq ?_
  | with_reducible refine es_ret ?_
  | with_reducible refine es_if ?_
  | with_reducible refine es_pput ?_
  | with_reducible refine es_parOwn ?_
  | with_reducible refine es_par3 ?_
  | with_reducible refine es_par ?_
  | with_reducible refine es_own ?_
  | with_reducible refine es_asg ?_
  | with_reducible refine eg_name ?_
  | with_reducible refine egs_cons ?_
  | with_reducible refine egs_nil ?_
  | ((with_reducible refine' eg_tup ?zh ?znx); (case zh => rfl)))
local macro_rules | `(tactic| fail "v2") => `(tactic| first
  | with_reducible refine ev_split ?_
  | with_reducible refine ev_fs ?_
  | with_reducible refine ej_nil ?_
  | with_reducible refine ej_cons ?_
  | with_reducible refine rc_intT ?_
  | with_reducible refine rc_intTB ?_
  | with_reducible refine rd_plusI ?_
  | with_reducible refine rd_lt ?_
  | with_reducible refine rd_leI ?_
  | with_reducible refine rd_leS ?_
  | with_reducible refine rd_gt ?_
  | with_reducible refine rd_ge ?_
  | with_reducible refine rd_geS ?_
  | with_reducible refine rd_isB ?_
  | with_reducible refine rd_isNotB ?_
  | with_reducible refine rd_isN ?_
  | with_reducible refine rd_isNotN ?_
  | with_reducible refine rd_inStr ?_
  | with_reducible refine rd_ninStr ?_
  | with_reducible refine rd_minus ?_
  | with_reducible refine rd_modI (by decide) ?_
  | with_reducible refine rd_overI (by decide) ?_
  | with_reducible refine rd_plusL (by decide) ?_
  | with_reducible refine rd_plusT (by decide) ?_
  | with_reducible refine rc_lenL ?_
  | with_reducible refine rc_lenT ?_
  | with_reducible refine rc_int ?_
  | with_reducible refine rc_intB ?_
  | with_reducible refine rc_max ?_
  | with_reducible refine rc_min ?_
  | with_reducible refine rc_tuple ?_
  | with_reducible refine rc_reprN ?_
  | with_reducible refine rs_list ?_
  | with_reducible refine rs_tup ?_
  | with_reducible refine rc_allM ?_
  | with_reducible refine ev_join ?_
  | ((with_reducible refine' rd_eqA ?za ?zb ?znx); (case za => first | with_reducible assumption | rfl | decide +kernel); (case zb => first | with_reducible assumption | rfl | decide +kernel))
  | ((with_reducible refine' rd_neA ?za ?zb ?znx); (case za => first | with_reducible assumption | rfl | decide +kernel); (case zb => first | with_reducible assumption | rfl | decide +kernel))
  | ((with_reducible refine' rd_timesI ?za ?znx); (case za => first | exact .inr (by decide) | exact .inl (by decide) | exact .inl (fm _ (by decide))))
  | ((with_reducible refine' rd_ixT ?zh ?znx); (case zh => rfl))
  | ((with_reducible refine' rd_ixL ?zh ?znx); (case zh => rfl)))
local macro_rules | `(tactic| fail "vB") => `(tactic| first
  | (refine ⟨fun hc => ?_, fun hc => ?_⟩ <;> (try (exact Bool.noConfusion hc))))
local macro_rules | `(tactic| fail "v3") => `(tactic| first
  | with_reducible refine ⟨_, rfl, ?_⟩
  | with_reducible refine ⟨rfl, ?_⟩
  | with_reducible refine ⟨_, _, rfl, rfl, ?_⟩)
local macro_rules | `(tactic| fail "v") => `(tactic| repeat (first | fail "v1" | fail "v2" | fail "v3"))
local macro_rules | `(tactic| fail "w") => `(tactic| repeat' (first | fail "v1" | fail "v2" | fail "v3" | fail "vB" | fail))
local macro_rules | `(tactic| fail "v4") => `(tactic| first
  | ((refine ⟨Nat.le_of_ble_eq_true ?zsz, ?znx⟩); (case zsz => rfl)))
local macro_rules | `(tactic| fail "z") => `(tactic| repeat' (first | fail "v1" | fail "v2" | fail "v3" | fail "v4" | fail "vB" | fail))

/-! ### the text -/
def tp (i : Nat) : Stmt := PySem.Challenge.pw_sinceclocks_k60_rows_written.main.body.getD i (.Pass ⟨0, 0, 0, 0⟩)
abbrev sNum : Stmt := tp 17
theorem scsNum : FnScope ["thing", "least"] ["thing", "least"] (defScope sNum) := ⟨rfl, rfl, rfl, by decide +kernel, rfl, by decide +kernel, by decide +kernel⟩
abbrev sTup : Stmt := tp 18
theorem scsTup : FnScope ["thing", "size"] ["thing", "size"] (defScope sTup) := ⟨rfl, rfl, rfl, by decide +kernel, rfl, by decide +kernel, by decide +kernel⟩
abbrev sLet : Stmt := tp 19
theorem scsLet : FnScope ["thing"] ["thing"] (defScope sLet) := ⟨rfl, rfl, rfl, by decide +kernel, rfl, by decide +kernel, by decide +kernel⟩
abbrev sMix : Stmt := tp 35
theorem scsMix : FnScope ["cell", "k", "number"] ["cell", "k"] (defScope sMix) := ⟨rfl, rfl, rfl, by decide +kernel, rfl, by decide +kernel, by decide +kernel⟩
abbrev sPile : Stmt := tp 36
theorem scsPile : FnScope ["script", "k", "cell", "found", "j"] ["script", "k"] (defScope sPile) := ⟨rfl, rfl, rfl, by decide +kernel, rfl, by decide +kernel, by decide +kernel⟩
abbrev sTake : Stmt := tp 37
theorem scsTake : FnScope ["pile", "size", "j", "digit"] ["pile", "size"] (defScope sTake) := ⟨rfl, rfl, rfl, by decide +kernel, rfl, by decide +kernel, by decide +kernel⟩
def isNum (j : Int) : PyData → Bool
  | .int i => decide (j ≤ i)
  | _ => false
def isInt : PyData → Bool
  | .int _ => true
  | _ => false
def isTup (n : Int) : PyData → Bool
  | .tuple ds => (ds.length : Int) == n
  | _ => false
def isLet : PyData → Bool
  | .str x => match x.cps.toList with
    | [c] => decide (97 ≤ c ∧ c ≤ 122)
    | _ => false
  | _ => false
mutual
/-- nothing in it is long -/
def sm : PyData → Bool
  | .str x => decide (x.length ≤ 1000)
  | .list ds => decide (ds.length ≤ 1000) && smA ds
  | .tuple ds => decide (ds.length ≤ 1000) && smA ds
  | .dict _ => false
  | _ => true
def smA : List PyData → Bool
  | [] => true
  | d :: ds => sm d && smA ds
end
theorem str_one (x : Str) (h : x.length = 1) : ∃ c, x = ⟨#[c]⟩ := by
  obtain ⟨⟨l⟩⟩ := x
  have h' : l.length = 1 := h
  match l, h' with
  | [c], _ => exact ⟨c, rfl⟩
theorem sm_str {x : Str} (h : sm (.str x) = true) : x.length ≤ sizeLine := by
  have h' : x.length ≤ 1000 := by simpa [sm] using h
  exact Nat.le_trans h' (by decide)
theorem sm_tup {ds : List PyData} (h : sm (.tuple ds) = true) : ds.length ≤ 1000 ∧ smA ds = true := by simpa [sm] using h
theorem isLet_len {x : Str} (h : x.length ≠ 1) : isLet (.str x) = false := by
  obtain ⟨⟨l⟩⟩ := x
  have h' : l.length ≠ 1 := h
  match l, h' with
  | [], _ => rfl
  | [c], h => exact absurd rfl h
  | _ :: _ :: _, _ => rfl
abbrev preN : List PyData → Prop := fun ds => ∃ d j, ds = [d, .int j]
abbrev preD : List PyData → Prop := fun ds => ∃ d, ds = [d] ∧ sm d = true
theorem smA_mem {d : PyData} : ∀ {ds : List PyData}, smA ds = true → d ∈ ds → sm d = true
  | [], _, h => by cases h
  | e :: es, h, hm => by
    have h' : (sm e && smA es) = true := h
    rw [Bool.and_eq_true] at h'
    rcases List.mem_cons.mp hm with rfl | q
    · exact h'.1
    · exact smA_mem h'.2 q
abbrev preII : List PyData → Prop := fun ds => ∃ a b, ds = [.int a, .int b]
abbrev postI : List PyData → PyData → Prop := fun _ d => ∃ z, d = .int z
abbrev preT : List PyData → Prop := fun ds => ∃ n : Int, ds = [.int n] ∧ 1 ≤ n ∧ n ≤ 1000
abbrev postT : List PyData → PyData → Prop := fun ds d => ∃ n z : Int, ds = [.int n] ∧ d = .int z ∧ 0 ≤ z ∧ z < n
mutual
/-- nothing in it is longer than k -/
def smB (k : Nat) : PyData → Bool
  | .str x => decide (x.length ≤ k)
  | .list ds => decide (ds.length ≤ k) && smBA k ds
  | .tuple ds => decide (ds.length ≤ k) && smBA k ds
  | .dict _ => false
  | _ => true
def smBA (k : Nat) : List PyData → Bool
  | [] => true
  | d :: ds => smB k d && smBA k ds
end
theorem smBA_iff {k : Nat} : ∀ {ds : List PyData}, smBA k ds = true ↔ ∀ d, d ∈ ds → smB k d = true
  | [] => ⟨fun _ _ h => (by cases h), fun _ => rfl⟩
  | d :: ds => by
    show (smB k d && smBA k ds) = true ↔ _
    rw [Bool.and_eq_true, smBA_iff]
    constructor
    · rintro ⟨h1, h2⟩ e he
      rcases List.mem_cons.mp he with rfl | q
      · exact h1
      · exact h2 e q
    · exact fun h => ⟨h d List.mem_cons_self, fun e he => h e (List.mem_cons_of_mem _ he)⟩
theorem smB_tup {k : Nat} {ds : List PyData} : smB k (.tuple ds) = true ↔ ds.length ≤ k ∧ ∀ d, d ∈ ds → smB k d = true := by
  show (decide (ds.length ≤ k) && smBA k ds) = true ↔ _
  rw [Bool.and_eq_true, decide_eq_true_eq, smBA_iff]
theorem smB_lst {k : Nat} {ds : List PyData} : smB k (.list ds) = true ↔ ds.length ≤ k ∧ ∀ d, d ∈ ds → smB k d = true := by
  show (decide (ds.length ≤ k) && smBA k ds) = true ↔ _
  rw [Bool.and_eq_true, decide_eq_true_eq, smBA_iff]
mutual
theorem smB_mono {j k : Nat} (h : j ≤ k) : ∀ d : PyData, smB j d = true → smB k d = true
  | .none, _ => rfl
  | .bool _, _ => rfl
  | .int _, _ => rfl
  | .str x, q => by
    have q' : x.length ≤ j := of_decide_eq_true q
    exact decide_eq_true (by omega)
  | .list ds, q => by
    have q' : (decide (ds.length ≤ j) && smBA j ds) = true := q
    rw [Bool.and_eq_true, decide_eq_true_eq] at q'
    show (decide (ds.length ≤ k) && smBA k ds) = true
    rw [Bool.and_eq_true, decide_eq_true_eq]
    exact ⟨by omega, smBA_mono h ds q'.2⟩
  | .tuple ds, q => by
    have q' : (decide (ds.length ≤ j) && smBA j ds) = true := q
    rw [Bool.and_eq_true, decide_eq_true_eq] at q'
    show (decide (ds.length ≤ k) && smBA k ds) = true
    rw [Bool.and_eq_true, decide_eq_true_eq]
    exact ⟨by omega, smBA_mono h ds q'.2⟩
  | .dict _, q => by cases q
theorem smBA_mono {j k : Nat} (h : j ≤ k) : ∀ ds : List PyData, smBA j ds = true → smBA k ds = true
  | [], _ => rfl
  | d :: ds, q => by
    have q' : (smB j d && smBA j ds) = true := q
    rw [Bool.and_eq_true] at q'
    show (smB k d && smBA k ds) = true
    rw [Bool.and_eq_true]
    exact ⟨smB_mono h d q'.1, smBA_mono h ds q'.2⟩
end
mutual
theorem sm_of : ∀ d : PyData, smB 1000 d = true → sm d = true
  | .none, _ => rfl
  | .bool _, _ => rfl
  | .int _, _ => rfl
  | .str x, q => q
  | .list ds, q => by
    have q' : (decide (ds.length ≤ 1000) && smBA 1000 ds) = true := q
    rw [Bool.and_eq_true] at q'
    show (decide (ds.length ≤ 1000) && smA ds) = true
    rw [q'.1, smA_of ds q'.2]; rfl
  | .tuple ds, q => by
    have q' : (decide (ds.length ≤ 1000) && smBA 1000 ds) = true := q
    rw [Bool.and_eq_true] at q'
    show (decide (ds.length ≤ 1000) && smA ds) = true
    rw [q'.1, smA_of ds q'.2]; rfl
  | .dict _, q => by cases q
theorem smA_of : ∀ ds : List PyData, smBA 1000 ds = true → smA ds = true
  | [], _ => rfl
  | d :: ds, q => by
    have q' : (smB 1000 d && smBA 1000 ds) = true := q
    rw [Bool.and_eq_true] at q'
    show (sm d && smA ds) = true
    rw [sm_of d q'.1, smA_of ds q'.2]; rfl
end
/-- data that == and repr go over, small in depth -/
structure Fine (n : Nat) (d : PyData) : Prop where
  nd : noDict d = true
  cl : PyData.canLay0 d = true
  dp : PyData.depth d ≤ n
structure FineA (n : Nat) (ds : List PyData) : Prop where
  nd : noDictAll ds = true
  cl : PyData.canLayAll0 ds = true
  dp : PyData.depthAll ds ≤ n
theorem fineA_iff {n : Nat} : ∀ {ds : List PyData}, FineA n ds ↔ ∀ d, d ∈ ds → Fine n d
  | [] => ⟨fun _ _ h => (by cases h), fun _ => ⟨rfl, rfl, Nat.zero_le _⟩⟩
  | d :: ds => by
    constructor
    · rintro ⟨h1, h2, h3⟩ e he
      have h1' : (noDict d && noDictAll ds) = true := h1
      have h2' : (PyData.canLay0 d && PyData.canLayAll0 ds) = true := h2
      have h3' : max (PyData.depth d) (PyData.depthAll ds) ≤ n := h3
      rw [Bool.and_eq_true] at h1' h2'
      rcases List.mem_cons.mp he with rfl | q
      · exact ⟨h1'.1, h2'.1, by omega⟩
      · exact fineA_iff.mp ⟨h1'.2, h2'.2, by omega⟩ e q
    · intro h
      have a := h d List.mem_cons_self
      have b := fineA_iff.mpr fun e he => h e (List.mem_cons_of_mem _ he)
      refine ⟨?_, ?_, ?_⟩
      · show (noDict d && noDictAll ds) = true
        rw [a.nd, b.nd]; rfl
      · show (PyData.canLay0 d && PyData.canLayAll0 ds) = true
        rw [a.cl, b.cl]; rfl
      · show max (PyData.depth d) (PyData.depthAll ds) ≤ n
        have := a.dp
        have := b.dp
        omega
theorem fine_tup {n : Nat} {ds : List PyData} (h : ∀ d, d ∈ ds → Fine n d) : Fine (n + 1) (.tuple ds) := by
  have := fineA_iff.mpr h
  exact ⟨this.nd, this.cl, Nat.succ_le_succ this.dp⟩
theorem fine_items {n : Nat} {ds : List PyData} (h : Fine n (.tuple ds)) : ∀ d, d ∈ ds → Fine n d := fineA_iff.mp ⟨h.nd, h.cl, by
  have h3 : PyData.depthAll ds + 1 ≤ n := h.dp
  omega⟩
theorem fine_eqOk {n : Nat} {d : PyData} (h : Fine n d) (hn : n ≤ 64) : eqOk d = true := by
  show (noDict d && (PyData.canLay0 d && decide (PyData.depth d ≤ 64))) = true
  rw [h.nd, h.cl, decide_eq_true (Nat.le_trans h.dp hn)]; rfl
theorem fine_let {c : Nat} (h : c < 200) (n : Nat) : Fine n (.str ⟨#[c]⟩) := by
  refine ⟨rfl, ?_, Nat.zero_le _⟩
  show (#[c]).all (· < 0x110000) = true
  simp
  omega
theorem tupText_le {b : Nat} {ts : List Str} (h : ∀ t, t ∈ ts → t.length ≤ b) : (tupleText ts).length ≤ ts.length * (b + 2) + 3 := by
  have hp : ∀ ts : List Str, (∀ t, t ∈ ts → t.length ≤ b) → piled ts ≤ ts.length * (b + 2) := by
    intro ts
    induction ts with
    | nil =>
      intro _
      have : piled [] = 0 := rfl
      rw [this]
      exact Nat.zero_le _
    | cons t ts ih =>
      intro h
      rw [piled_cons, List.length_cons, Nat.add_mul]
      have h1 := h t List.mem_cons_self
      have h2 := ih fun u hu => h u (List.mem_cons_of_mem _ hu)
      omega
  have hj : (Str.join ", " ts).length ≤ ts.length * (b + 2) := by
    cases ts with
    | nil =>
      have : (Str.join (Str.ofString ", ") []).length = 0 := by decide
      show (Str.join (Str.ofString ", ") []).length ≤ _
      rw [this]
      exact Nat.zero_le _
    | cons t r =>
      have := join_length_add (t :: r) (by simp)
      have := hp (t :: r) h
      omega
  unfold tupleText
  rw [Str.length_append, Str.length_append]
  have e1 : (Str.ofString "(").length = 1 := by decide
  have e2 : (Str.ofString (if ts.length == 1 then ",)" else ")")).length ≤ 2 := by split <;> decide
  have e1' : (("(" : String) : Str).length = 1 := e1
  omega
theorem shownAll_map : ∀ ds : List PyData, PyData.shownAll ds = ds.map PyData.shown
  | [] => rfl
  | d :: ds => by
    show PyData.shown d :: PyData.shownAll ds = _
    rw [shownAll_map ds]; rfl
theorem shown_tup {b : Nat} {ds : List PyData} (h : ∀ d, d ∈ ds → (PyData.shown d).length ≤ b) : (PyData.shown (.tuple ds)).length ≤ ds.length * (b + 2) + 3 := by
  show (tupleText (PyData.shownAll ds)).length ≤ _
  rw [shownAll_map]
  refine Nat.le_trans (tupText_le (b := b) fun t ht => ?_) (by rw [List.length_map]; exact Nat.le_refl _)
  obtain ⟨d, hd, rfl⟩ := List.mem_map.mp ht
  exact h d hd
theorem log_small {i : Int} (h : i.natAbs < 2 ^ 20) : i.natAbs.log2 < 1920 := by
  by_cases z : i.natAbs = 0
  · rw [z]; decide
  · exact Nat.lt_trans ((Nat.log2_lt z).mpr h) (by decide)
theorem shown_int {i : Int} (h : i.natAbs < 2 ^ 20) : (PyData.shown (.int i)).length ≤ 1921 := int_text_len_1921 (log_small h)
theorem at_nat {ds : List PyData} {m : Nat} {d : PyData} (h : ds[m]? = some d) : L2.atI ds (m : Int) = some d := by
  have lt : m < ds.length := (List.getElem?_eq_some_iff.mp h).1
  have e : L2.ixN ds.length (m : Int) = some m := by
    unfold L2.ixN
    rw [if_pos (by omega), if_pos (by omega)]
    rfl
  unfold L2.atI
  rw [e]
  exact h
theorem smA_mk : ∀ {ds : List PyData}, (∀ d, d ∈ ds → sm d = true) → smA ds = true
  | [], _ => rfl
  | d :: ds, h => by
    show (sm d && smA ds) = true
    rw [h d List.mem_cons_self, smA_mk fun e he => h e (List.mem_cons_of_mem _ he)]; rfl
theorem sm_mk {ds : List PyData} (hl : ds.length ≤ 1000) (h : ∀ d, d ∈ ds → sm d = true) : sm (.tuple ds) = true := by
  show (decide (ds.length ≤ 1000) && smA ds) = true
  rw [decide_eq_true hl, smA_mk h]; rfl
theorem cut_mem {ds : List PyData} {lo hi : Option Int} {d : PyData} (h : d ∈ FD.cutD ds lo hi) : d ∈ ds := List.mem_of_mem_drop (List.mem_of_mem_take h)
theorem cut_len (ds : List PyData) (lo hi : Option Int) : (FD.cutD ds lo hi).length ≤ ds.length := by
  unfold FD.cutD
  rw [List.length_take, List.length_drop]
  omega
section
variable {P : Program} {w : World} {K : PySem.W.Frag} {mg : Str → Option Value} {base : Heap} {f : Addr} {fd : FuncData}
def fNum : List PyData → PyData
  | [d, .int j] => .bool (isNum j d)
  | _ => .none
theorem ok_num (F : L2.Fun K "is_number" "is_number" sNum f fd) (bi : Bi mg) :
    FnG P w K mg base 1 f fd ["thing", "least"] (spF 2 (fun ds => ∃ d j, ds = [d, .int j]) fNum) := by
  refine fnD F scsNum _ _ fun cdv A outer s H hg hr => ?_
  refine' ⟨_, ?h1, ?h2⟩
  case h1 =>
    have km : KMark K := ⟨⟩
    have nd : (["thing", "least"] : List Str).Nodup := by decide +kernel
    have : (["thing", "least"] : List Str)[0]? = some ("thing" : Str) := rfl
    have : (["thing", "least"] : List Str)[1]? = some ("least" : Str) := rfl
    fail "fTop"
  case h2 =>
    rintro ds hl ⟨d, j, rfl⟩
    try dsimp only [cxK, blkK]
    show EvS K _ [some (.dat d), some (.dat (.int j))] _
    cases d
    all_goals (fail "w")
    all_goals rfl
def fTup : List PyData → PyData
  | [d, .int j] => .bool (isTup j d)
  | _ => .none
theorem ok_tup (F : L2.Fun K "is_tuple" "is_tuple" sTup f fd) (bi : Bi mg) :
    FnG P w K mg base 1 f fd ["thing", "size"] (spF 2 (fun ds => ∃ d j, ds = [d, .int j]) fTup) := by
  refine fnD F scsTup _ _ fun cdv A outer s H hg hr => ?_
  refine' ⟨_, ?h1, ?h2⟩
  case h1 =>
    have km : KMark K := ⟨⟩
    have nd : (["thing", "size"] : List Str).Nodup := by decide +kernel
    have : (["thing", "size"] : List Str)[0]? = some ("thing" : Str) := rfl
    have : (["thing", "size"] : List Str)[1]? = some ("size" : Str) := rfl
    fail "fTop"
  case h2 =>
    rintro ds hl ⟨d, j, rfl⟩
    try dsimp only [cxK, blkK]
    show EvS K _ [some (.dat d), some (.dat (.int j))] _
    cases d
    all_goals (fail "w")
    all_goals rfl
theorem eqv_int (i j : Int) : PyData.eqv (.int i) (.int j) = (i == j) := rfl
theorem len_one {x : Str} (h : PyData.eqv (.int x.length) (.int 1) = true) : x.length = 1 := by
  have h' : ((x.length : Int) == 1) = true := h
  have := eq_of_beq h'
  omega
theorem len_not {x : Str} (h : PyData.eqv (.int x.length) (.int 1) = false) : x.length ≠ 1 := by
  have h' : ((x.length : Int) == 1) = false := h
  intro e
  rw [e] at h'
  cases h'
theorem one_lt (a b : Nat) : ([a] < [b]) ↔ a < b := by
  constructor
  · intro h
    cases h with
    | cons h => cases h
    | rel h => exact h
  · exact fun h => .rel h
theorem let_in (c : Nat) : (!(Builtin.Str.occurrences "abcdefghijklmnopqrstuvwxyz" ⟨#[c]⟩ 0 (Str.length "abcdefghijklmnopqrstuvwxyz") 1).isEmpty) = decide (97 ≤ c ∧ c ≤ 122) := by
  rw [PySem.StrLaws.found_one]
  apply decide_eq_decide.mpr
  have e : (Str.ofString "abcdefghijklmnopqrstuvwxyz").cps.toList = [97, 98, 99, 100, 101, 102, 103, 104, 105, 106, 107, 108, 109, 110, 111, 112, 113, 114, 115, 116, 117, 118, 119, 120, 121, 122] := by decide +kernel
  rw [e]
  simp only [List.mem_cons, List.not_mem_nil, or_false]
  omega
def fLet : List PyData → PyData
  | [d] => .bool (isLet d)
  | _ => .none
theorem ok_let (F : L2.Fun K "is_letter" "is_letter" sLet f fd) (bi : Bi mg) :
    FnG P w K mg base 1 f fd ["thing"] (spF 1 (fun ds => ∃ d, ds = [d] ∧ sm d = true) fLet) := by
  refine fnD F scsLet _ _ fun cdv A outer s H hg hr => ?_
  refine' ⟨_, ?h1, ?h2⟩
  case h1 =>
    have km : KMark K := ⟨⟩
    have nd : (["thing"] : List Str).Nodup := by decide +kernel
    have : (["thing"] : List Str)[0]? = some ("thing" : Str) := rfl
    fail "fTop"
  case h2 =>
    rintro ds hl ⟨d, rfl, hd⟩
    try dsimp only [cxK, blkK]
    show EvS K _ [some (.dat d)] _
    cases d
    case str x =>
      have ea : (Str.ofString "a").cps.toList = [97] := by decide +kernel
      have ez : (Str.ofString "z").cps.toList = [122] := by decide +kernel
      fail "w"
      refine rc_lenS (sm_str hd) ?_
      fail "w"
      · rename_i h1 h
        obtain ⟨c, rfl⟩ := str_one x (len_one h1)
        rw [ea] at h
        rw [ez]
        show PyData.bool (!decide ([122] < [c])) = PyData.bool (decide (97 ≤ c ∧ c ≤ 122))
        have h' : ¬ [c] < [97] := by simpa using h
        rw [one_lt] at h'
        congr 1
        by_cases q : 122 < c
        · rw [decide_eq_true ((one_lt 122 c).mpr q), decide_eq_false (by omega)]; rfl
        · rw [decide_eq_false (fun z => q ((one_lt 122 c).mp z)), decide_eq_true (by omega)]; rfl
      · rename_i h1 h
        obtain ⟨c, rfl⟩ := str_one x (len_one h1)
        rw [ea] at h
        show PyData.bool false = PyData.bool (decide (97 ≤ c ∧ c ≤ 122))
        have h' : [c] < [97] := by simpa using h
        rw [one_lt] at h'
        rw [decide_eq_false (by omega)]
      · rename_i h
        show PyData.bool false = PyData.bool (isLet (.str x))
        rw [isLet_len (len_not h)]
    all_goals (fail "w")
    all_goals rfl
theorem ok_mix (F : L2.Fun K "_law_mixed" "_law_mixed" sMix f fd) (bi : Bi mg) : FnG P w K mg base 1 f fd ["cell", "k"] (spD 2 preII postI) := by
  refine fnD F scsMix _ _ fun cdv A outer s H hg hr => ?_
  refine' ⟨_, ?h1, ?h2⟩
  case h1 =>
    have km : KMark K := ⟨⟩
    have nd : (["cell", "k", "number"] : List Str).Nodup := by decide +kernel
    have : (["cell", "k", "number"] : List Str)[0]? = some ("cell" : Str) := rfl
    have : (["cell", "k", "number"] : List Str)[1]? = some ("k" : Str) := rfl
    have : (["cell", "k", "number"] : List Str)[2]? = some ("number" : Str) := rfl
    fail "fTop"
  case h2 =>
    rintro ds hl ⟨a, b, rfl⟩
    show EvS K _ [some (.dat (.int a)), some (.dat (.int b)), none] _
    fail "w"
    exact ⟨_, rfl⟩
theorem ok_take (F : L2.Fun K "_law_take" "_law_take" sTake f fd) (bi : Bi mg) (c1 : Cal P w K mg base 1 "_law_mixed" ["cell", "k"] (spD 2 preII postI)) :
    FnG P w K mg base 2 f fd ["pile", "size"] (spP 1 preT postT) := by
  refine fnP F scsTake (by simp) _ _ fun cdv A outer s H hg hr => ?_
  refine' ⟨_, ?h1, ?h2⟩
  case h1 =>
    have km : KMark K := ⟨⟩
    have nd : (["pile", "size", "j", "digit"] : List Str).Nodup := by decide +kernel
    have : (["pile", "size", "j", "digit"] : List Str)[0]? = some ("pile" : Str) := rfl
    have : (["pile", "size", "j", "digit"] : List Str)[1]? = some ("size" : Str) := rfl
    have : (["pile", "size", "j", "digit"] : List Str)[2]? = some ("j" : Str) := rfl
    have : (["pile", "size", "j", "digit"] : List Str)[3]? = some ("digit" : Str) := rfl
    fail "fTop"
  case h2 =>
    rintro p ds hl ⟨n, rfl, h1, h2⟩
    show EvS K _ [some (.pile p), some (.dat (.int n)), none, none] _
    fail "w"
    refine ⟨by decide, fun z => ?_⟩
    fail "v1"
    have nz : n ≠ 0 := by omega
    have n30 : CDivN n n := ⟨nz, by omega⟩
    have fin : ∀ a : Option Sl, EvS K (tSeq (tAsg (tOp rMod (tCB rInt (tCons (tOp (rIx K) (tVar 0) (tC (V.int 0))) tNil)) (tVar 1)) (gName 3))
        (tSeq (tAsg (tOp rOver (tOp (rIx K) (tVar 0) (tC (V.int 0))) (tVar 1)) (gSub (tVar 0) (tC (V.int 0)) rSetL)) (tRet (tVar 3))))
        [some (.pile p), some (.dat (.int n)), a, none] { nx := fun _ => False, rt := fun e d => e[0]? = some (some (.pile p)) ∧ postT [.int n] d } := fun a => by
      fail "w"
      refine ⟨by decide, fun y => ?_⟩
      fail "w"
      refine rd_modI nz ?_
      fail "w"
      refine ⟨by decide, fun y2 => ?_⟩
      fail "w"
      refine rd_overI ⟨nz, by omega⟩ ?_
      refine ⟨⟨_, rfl⟩, ⟨p, rfl⟩, ?_⟩
      fail "w"
      refine ⟨⟨0, rfl, by decide⟩, ?_⟩
      fail "w"
      exact ⟨Int.fmod_nonneg_of_pos _ (by omega), Int.fmod_lt_of_pos _ (by omega)⟩
    refine rd_eqA (by rfl) (by rfl) ⟨_, rfl, fun _ => ?_, fun _ => es_next (fin none)⟩
    fail "w"
    refine ⟨by decide, fun y => ?_⟩
    fail "w"
    refine ⟨⟨_, rfl⟩, ⟨p, rfl⟩, ?_⟩
    fail "w"
    refine ⟨⟨2, rfl, by decide⟩, ?_⟩
    refine es_for (ei_rng1 (ea_cons (ev_int (ea_nil ⟨_, rfl, by decide, ?_⟩))))
    refine ⟨fun m e => ∃ a, e = [some (.pile p), some (.dat (.int n)), a, none], ⟨none, rfl⟩, ?_, ?_⟩
    · rintro m d e hd ⟨a, rfl⟩
      obtain ⟨hm, rfl⟩ := nums_get hd
      fail "w"
      refine ⟨by decide, fun y => ?_⟩
      fail "w"
      refine ⟨by decide, fun y2 => ?_⟩
      fail "w"
      refine ⟨by decide, fun y3 => ?_⟩
      fail "w"
      have hm' : m < 6 := hm
      refine rd_timesI (.inl ⟨by omega, by omega⟩) ?_
      fail "w"
      refine ⟨⟨_, _, rfl⟩, ?_⟩
      rintro d ⟨z2, rfl⟩
      fail "w"
      refine ⟨⟨_, rfl⟩, ⟨p, rfl⟩, ?_⟩
      fail "w"
      exact ⟨⟨0, rfl, by decide⟩, _, rfl⟩
    · rintro e ⟨a, rfl⟩
      exact fin a
theorem ok_pile (F : L2.Fun K "_law_pile" "_law_pile" sPile f fd) (bi : Bi mg) (c1 : Cal P w K mg base 1 "_law_mixed" ["cell", "k"] (spD 2 preII postI)) :
    FnG P w K mg base 2 f fd ["script", "k"] (spN K) := by
  refine fnN F scsPile rfl fun cdv A outer s H hg hr => ?_
  refine' ⟨_, ?h1, ?h2⟩
  case h1 =>
    have km : KMark K := ⟨⟩
    have nd : (["script", "k", "cell", "found", "j"] : List Str).Nodup := by decide +kernel
    have : (["script", "k", "cell", "found", "j"] : List Str)[0]? = some ("script" : Str) := rfl
    have : (["script", "k", "cell", "found", "j"] : List Str)[1]? = some ("k" : Str) := rfl
    have : (["script", "k", "cell", "found", "j"] : List Str)[2]? = some ("cell" : Str) := rfl
    have : (["script", "k", "cell", "found", "j"] : List Str)[3]? = some ("found" : Str) := rfl
    have : (["script", "k", "cell", "found", "j"] : List Str)[4]? = some ("j" : Str) := rfl
    fail "fTop"
  case h2 =>
    rintro p ns k hl hk
    have p18 : CPow 10 18 := ⟨by decide, by decide, by decide +kernel⟩
    have p60 : CPow 10 60 := ⟨by decide, by decide, by decide +kernel⟩
    have fin : ∀ c : Int, EvS K (tSeq (tIfS (tTest (tOp rGe (tVar 2) (tOp rPow (tC (V.int 10)) (tC (V.int 18)))))
        (tRet (tLst (tCons (tOp rMod (tCB rInt (tCons (tOp rMinus (tVar 2) (tOp rPow (tC (V.int 10)) (tC (V.int 18)))) tNil))
          (tOp (rTimes K) (tOp (rTimes K) (tOp (rTimes K) (tOp rPow (tC (V.int 10)) (tC (V.int 60))) (tOp rPow (tC (V.int 10)) (tC (V.int 60)))) (tOp rPow (tC (V.int 10)) (tC (V.int 60)))) (tOp rPow (tC (V.int 10)) (tC (V.int 60)))))
          (tCons (tOp rMod (tCB rInt (tCons (tVar 2) tNil)) (tC (V.int 2147483647))) (tCons (tVar 1) tNil))))) tNext)
        (tSeq (tAsg (tC (V.int 0)) (gName 3)) (tSeq (tFor (iRng1 (tCons (tC (V.int 24)) tNil)) (gName 4)
          (tAsg (tOp (rPlus K) (tOp (rTimes K) (tVar 3) (tC (V.int 2147483579))) (tCB (callOf (spD 2 preII postI)) (tCons (tVar 2) (tCons (tOp (rPlus K) (tOp (rPlus K) (tOp (rTimes K) (tC (V.int 7)) (tVar 1)) (tOp (rTimes K) (tC (V.int 100)) (tVar 4))) (tOp (rTimes K) (tVar 4) (tVar 4))) tNil)))) (gName 3)))
          (tRet (tLst (tCons (tVar 3) (tCons (tOp rMod (tCB rInt (tCons (tVar 2) tNil)) (tC (V.int 2147483647))) (tCons (tVar 1) tNil))))))))
        [some (.script p ns), some (.dat (.int k)), some (.dat (.int c)), none, none] { nx := fun _ => False, rn := fun F _ => F = fun _ H p => PileAt H p } := fun c => by
      refine es_seq (es_if ?_)
      fail "w"
      refine rd_pow p18 (rd_ge ⟨_, rfl, fun _ => ?_, fun _ => es_next ?_⟩)
      · refine es_retN ?_
        fail "w"
        refine rd_pow p18 ?_
        fail "w"
        refine rd_pow p60 ?_
        fail "w"
        refine rd_pow p60 ?_
        refine rd_timesW (by show _ < _; decide +kernel) ?_
        fail "w"
        refine rd_pow p60 ?_
        refine rd_timesW (by show _ < _; decide +kernel) ?_
        fail "w"
        refine rd_pow p60 ?_
        refine rd_timesW (by show _ < _; decide +kernel) ?_
        refine rd_modI (by decide +kernel) ?_
        fail "w"
        exact ⟨⟨_, _, _, rfl⟩, rfl⟩
      · refine es_seq (es_asg (ev_int (eg_name (es_seq ?_))))
        refine es_for (ei_rng1 (ea_cons (ev_int (ea_nil ⟨_, rfl, by decide, ?_⟩))))
        refine ⟨fun m e => ∃ z a, e = [some (.script p ns), some (.dat (.int k)), some (.dat (.int c)), some (.dat (.int z)), a], ⟨0, none, rfl⟩, ?_, ?_⟩
        · rintro m d e hd ⟨z, a, rfl⟩
          obtain ⟨hm, rfl⟩ := nums_get hd
          fail "w"
          have hm' : m < 24 := hm
          refine rd_timesI (.inl ⟨by omega, by omega⟩) ?_
          fail "w"
          refine ⟨⟨_, _, rfl⟩, ?_⟩
          rintro d ⟨z2, rfl⟩
          fail "w"
          exact ⟨_, _, rfl⟩
        · rintro e ⟨z, a, rfl⟩
          refine es_retN ?_
          fail "w"
          exact ⟨⟨_, _, _, rfl⟩, rfl⟩
    show EvS K _ [some (.script p ns), some (.dat (.int k)), none, none, none] _
    fail "v1"
    fail "v1"
    fail "v1"
    fail "v1"
    fail "v1"
    refine ⟨⟨_, rfl⟩, fun z => ?_⟩
    fail "v1"
    fail "v2"
    fail "v1"
    fail "v1"
    refine es_if ?_
    fail "v1"
    fail "v1"
    fail "v1"
    fail "v1"
    refine rd_lt ⟨_, rfl, fun hc => ?_, fun hc => es_next (fin _)⟩
    have hc' : k < ns.length := of_decide_eq_true hc
    fail "v1"
    fail "v1"
    fail "v1"
    obtain ⟨j, rfl⟩ : ∃ j : Nat, k = (j : Int) := ⟨k.toNat, by omega⟩
    have hj : j < ns.length := by omega
    exact ⟨j, ns[j], rfl, atI_nat (List.getElem?_eq_getElem hj), eg_name (fin _)⟩
theorem rd_neS1 {env : En} {P : PyData → Prop} {d : Str} (p : P (.bool false)) : RD K (rNeA K) env (.str d) (.str d) P := rd_neS (by rw [decide_eq_true rfl]; exact p)
theorem rd_eqS1 {env : En} {P : PyData → Prop} {d : Str} (p : P (.bool true)) : RD K (rEqA K) env (.str d) (.str d) P := rd_eqS (by rw [decide_eq_true rfl]; exact p)
end



def letOf (L : Str) : PyData → Bool
  | .str x => isLet (.str x) && FD.inS x L
  | _ => false
theorem isTup2 {d : PyData} (h : isTup 2 d = true) : ∃ a b, d = .tuple [a, b] := by
  cases d with
  | tuple ds =>
    have h' : ((ds.length : Int) == 2) = true := h
    have := eq_of_beq h'
    match ds, this with
    | [a, b], _ => exact ⟨a, b, rfl⟩
    | [], h => exact absurd h (by decide)
    | [_], h => exact absurd h (by simp)
    | _ :: _ :: _ :: _, h => exact absurd h (by simp; omega)
  | _ => cases h


abbrev sEvt : Stmt := tp 22
theorem scsEvt : FnScope ["thing"] ["thing"] (defScope sEvt) := ⟨rfl, rfl, rfl, by decide +kernel, rfl, by decide +kernel, by decide +kernel⟩
abbrev sRow : Stmt := tp 21
theorem scsRow : FnScope ["thing", "grain", "events", "event", "k"] ["thing"] (defScope sRow) := ⟨rfl, rfl, rfl, by decide +kernel, rfl, by decide +kernel, by decide +kernel⟩
abbrev sChk : Stmt := tp 23
theorem scsChk : FnScope ["row"] ["row"] (defScope sChk) := ⟨rfl, rfl, rfl, by decide +kernel, rfl, by decide +kernel, by decide +kernel⟩
def isEv : PyData → Bool
  | .tuple [a, t] => isLet a && isNum 0 t
  | _ => false
theorem isEv_not {d : PyData} (h : isTup 2 d = false) : isEv d = false := by
  cases d with
  | tuple ds =>
    match ds with
    | [a, b] => cases h
    | [] => rfl
    | [_] => rfl
    | _ :: _ :: _ :: _ => rfl
  | _ => rfl
theorem sm_two {a b : PyData} (h : sm (.tuple [a, b]) = true) : sm a = true ∧ sm b = true := by
  have := (sm_tup h).2
  simpa [smA] using this
def timesOf (evs : List PyData) : List Int := evs.map fun e => match e with
  | .tuple [_, .int t] => t
  | _ => 0
def nondec (ts : List Int) : Bool := (List.range (ts.length - 1)).all fun i => decide (ts.getD i 0 ≤ ts.getD (i + 1) 0)
theorem timesOf_len (evs : List PyData) : (timesOf evs).length = evs.length := by simp [timesOf]
theorem isEv_shape {d : PyData} (h : isEv d = true) : ∃ a t, d = .tuple [a, .int t] ∧ isLet a = true ∧ 0 ≤ t := by
  cases d with
  | tuple ds =>
    match ds, h with
    | [a, b], h =>
      have h' : (isLet a && isNum 0 b) = true := h
      rw [Bool.and_eq_true] at h'
      cases b with
      | int t => exact ⟨a, t, rfl, h'.1, of_decide_eq_true h'.2⟩
      | _ => exact absurd h'.2 (by simp [isNum])
    | [], h => exact absurd h (by simp [isEv])
    | [_], h => exact absurd h (by simp [isEv])
    | _ :: _ :: _ :: _, h => exact absurd h (by simp [isEv])
  | _ => exact absurd h (by simp [isEv])
theorem timesOf_get {evs : List PyData} {i : Nat} {a : PyData} {t : Int} (h : evs[i]? = some (.tuple [a, .int t])) : (timesOf evs).getD i 0 = t := by
  unfold timesOf
  rw [List.getD_eq_getElem?_getD, List.getElem?_map, h]
  rfl
theorem ev_at {evs : List PyData} (h : evs.all isEv = true) {i : Nat} (hi : i < evs.length) : ∃ a, evs[i]? = some (.tuple [a, .int ((timesOf evs).getD i 0)]) ∧ isLet a = true ∧ 0 ≤ (timesOf evs).getD i 0 := by
  have hm := List.all_eq_true.mp h evs[i] (List.getElem_mem hi)
  obtain ⟨a, t, e, ha, ht⟩ := isEv_shape hm
  have e' : evs[i]? = some (.tuple [a, .int t]) := by rw [List.getElem?_eq_getElem hi, e]
  rw [timesOf_get e']
  exact ⟨a, e', ha, ht⟩
/-- one event is not later than the next -/
def le2 (ts : List Int) : PyData → Bool
  | .int k => decide (ts.getD k.toNat 0 ≤ ts.getD (k.toNat + 1) 0)
  | _ => false
theorem nondec_le2 (ts : List Int) : (nums 0 ((ts.length : Int) - 1).toNat).all (le2 ts) = nondec ts := by
  have e : ((ts.length : Int) - 1).toNat = ts.length - 1 := by omega
  unfold nums nondec
  rw [e, List.all_map]
  congr 1
  funext i
  show decide _ = decide _
  have e2 : (0 + (i : Int)).toNat = i := by omega
  rw [e2]
def rowD : PyData → Bool
  | .tuple [g, .tuple evs] => isNum 1 g && (evs.all isEv && nondec (timesOf evs))
  | _ => false
theorem rowD_not {d : PyData} (h : isTup 2 d = false) : rowD d = false := by
  cases d with
  | tuple ds =>
    match ds, h with
    | [_, _], h => exact absurd h (by simp [isTup])
    | [], _ => rfl
    | [_], _ => rfl
    | _ :: _ :: _ :: _, _ => simp [rowD]
  | _ => rfl
def fEvt : List PyData → PyData
  | [d] => .bool (isEv d)
  | _ => .none
def fRow : List PyData → PyData
  | [d] => .bool (rowD d)
  | _ => .none
theorem isLet_shape {a : PyData} (h : isLet a = true) : ∃ c, a = .str ⟨#[c]⟩ ∧ 97 ≤ c ∧ c ≤ 122 := by
  cases a with
  | str x =>
    obtain ⟨⟨l⟩⟩ := x
    match l, h with
    | [c], h =>
      have := of_decide_eq_true h
      exact ⟨c, rfl, this⟩
    | [], h => cases h
    | _ :: _ :: _, h => cases h
  | _ => cases h
/-- the time of the last event with the letter x -/
def stepT (x : Str) (r : Option Int) : PyData → Option Int
  | .tuple [.str a, .int t] => if a = x then some t else r
  | _ => r
theorem rowD_parts {g : PyData} {evs : List PyData} (h : rowD (.tuple [g, .tuple evs]) = true) : isNum 1 g = true ∧ evs.all isEv = true ∧ nondec (timesOf evs) = true := by
  have h' : (isNum 1 g && (evs.all isEv && nondec (timesOf evs))) = true := h
  simpa [Bool.and_eq_true] using h'
theorem str1_ne (c : Nat) : (⟨#[c]⟩ : Str) ≠ "" := by
  intro h
  have := congrArg Str.length h
  cases this
abbrev preR : List PyData → Prop := fun ds => ∃ d, ds = [d] ∧ sm d = true ∧ rowD d = true
theorem fine_lst {n : Nat} {ds : List PyData} (h : ∀ d, d ∈ ds → Fine n d) : Fine (n + 1) (.list ds) := by
  have := fineA_iff.mpr h
  exact ⟨this.nd, this.cl, Nat.succ_le_succ this.dp⟩
section
variable {P : Program} {w : World} {K : PySem.W.Frag} {mg : Str → Option Value} {base : Heap} {f : Addr} {fd : FuncData}
theorem ok_evt (F : L2.Fun K "is_event" "is_event" sEvt f fd) (bi : Bi mg) (c1 : Cal P w K mg base 1 "is_tuple" ["thing", "size"] (spF 2 preN fTup)) (c2 : Cal P w K mg base 1 "is_letter" ["thing"] (spF 1 preD fLet)) (c3 : Cal P w K mg base 1 "is_number" ["thing", "least"] (spF 2 preN fNum)) :
    FnG P w K mg base 2 f fd ["thing"] (spF 1 preD fEvt) := by
  refine fnD F scsEvt _ _ fun cdv A outer s H hg hr => ?_
  refine' ⟨_, ?h1, ?h2⟩
  case h1 =>
    have km : KMark K := ⟨⟩
    have nd : (["thing"] : List Str).Nodup := by decide +kernel
    have : (["thing"] : List Str)[0]? = some ("thing" : Str) := rfl
    fail "fTop"
  case h2 =>
    rintro ds hl ⟨d, rfl, hd⟩
    try dsimp only [cxK, blkK]
    show EvS K _ [some (.dat d)] _
    fail "w"
    refine ⟨⟨_, _, rfl⟩, isTup 2 d, rfl, fun hT => ?_, fun hT => ?_⟩
    · obtain ⟨a, b, rfl⟩ := isTup2 hT
      obtain ⟨sa, sb⟩ := sm_two hd
      fail "w"
      refine ⟨⟨_, rfl, sa⟩, isLet a, rfl, fun hA => ?_, fun hA => ?_⟩
      · fail "w"
        refine ⟨⟨_, _, rfl⟩, ?_⟩
        show PyData.bool (isNum 0 b) = PyData.bool (isLet a && isNum 0 b)
        rw [hA]; rfl
      · show PyData.bool false = PyData.bool (isLet a && isNum 0 b)
        rw [hA]; rfl
    · show PyData.bool false = PyData.bool (isEv d)
      rw [isEv_not hT]
theorem ok_row (F : L2.Fun K "is_row" "is_row" sRow f fd) (bi : Bi mg) (c1 : Cal P w K mg base 1 "is_tuple" ["thing", "size"] (spF 2 preN fTup)) (c2 : Cal P w K mg base 2 "is_event" ["thing"] (spF 1 preD fEvt)) (c3 : Cal P w K mg base 1 "is_number" ["thing", "least"] (spF 2 preN fNum)) :
    FnG P w K mg base 3 f fd ["thing"] (spF 1 preD fRow) := by
  refine fnD F scsRow _ _ fun cdv A outer s H hg hr => ?_
  refine' ⟨_, ?h1, ?h2⟩
  case h1 =>
    have km : KMark K := ⟨⟩
    have nd : (["thing", "grain", "events", "event", "k"] : List Str).Nodup := by decide +kernel
    have : (["thing", "grain", "events", "event", "k"] : List Str)[0]? = some ("thing" : Str) := rfl
    have : (["thing", "grain", "events", "event", "k"] : List Str)[1]? = some ("grain" : Str) := rfl
    have : (["thing", "grain", "events", "event", "k"] : List Str)[2]? = some ("events" : Str) := rfl
    have : (["thing", "grain", "events", "event", "k"] : List Str)[3]? = some ("event" : Str) := rfl
    have : (["thing", "grain", "events", "event", "k"] : List Str)[4]? = some ("k" : Str) := rfl
    fail "fTop"
  case h2 =>
    rintro ds hl ⟨d, rfl, hd⟩
    try dsimp only [cxK, blkK]
    show EvS K _ [some (.dat d), none, none, none, none] _
    fail "w"
    refine ⟨⟨_, _, rfl⟩, isTup 2 d, rfl, fun hT => ?_, fun hT => ?_⟩
    · have hT' : isTup 2 d = false := by simpa using hT
      fail "w"
      show PyData.bool false = PyData.bool (rowD d)
      rw [rowD_not hT']
    · have hT' : isTup 2 d = true := by simpa using hT
      obtain ⟨g, evs, rfl⟩ := isTup2 hT'
      obtain ⟨sg, se⟩ := sm_two hd
      fail "w"
      refine ⟨⟨_, _, rfl⟩, isNum 1 g, rfl, fun h1 => ?_, fun h1 => ?_⟩
      · cases evs with
        | tuple es =>
          obtain ⟨sl, _⟩ := sm_tup se
          fail "w"
          refine ev_map (fun d => .bool (isEv d)) ?_
          refine ei_tup ?_
          fail "w"
          refine ⟨Nat.le_trans sl (by decide), fun d hd => ?_, ?_⟩
          · fail "w"
            exact ⟨⟨_, rfl, smA_mem ‹_› hd⟩, rfl, rfl⟩
          fail "w"
          · rename_i hc
            have hc' : es.all isEv = false := by simpa using hc
            show PyData.bool false = PyData.bool (isNum 1 g && (es.all isEv && nondec (timesOf es)))
            rw [hc', Bool.false_and, Bool.and_false]
          · rename_i hc
            have hc' : es.all isEv = true := by simpa using hc
            refine ev_map (fun d => .bool (le2 (timesOf es) d)) ?_
            refine ei_rng1 ?_
            fail "w"
            refine ⟨by omega, ?_, ?_, ?_⟩
            · rw [nums_length]; omega
            · intro d hd
              obtain ⟨i, hi⟩ := List.getElem?_of_mem hd
              obtain ⟨hi, rfl⟩ := nums_get hi
              obtain ⟨a, ha, _, _⟩ := ev_at hc' (show i < es.length by omega)
              obtain ⟨b, hb, _, _⟩ := ev_at hc' (show i + 1 < es.length by omega)
              fail "w"
              refine rd_ixT (d := .tuple [a, .int ((timesOf es).getD i 0)]) ?_ ?_
              · rw [show (0 : Int) + (i : Int) = ((i : Nat) : Int) by omega]; exact atI_nat ha
              fail "w"
              refine rd_ixT (d := .tuple [b, .int ((timesOf es).getD (i + 1) 0)]) ?_ ?_
              · rw [show (0 : Int) + (i : Int) + 1 = ((i + 1 : Nat) : Int) by omega]; exact atI_nat hb
              fail "w"
              show PyData.bool _ = PyData.bool (decide _)
              rw [show ((0 : Int) + (i : Int)).toNat = i by omega]
            · fail "w"
              show PyData.bool _ = PyData.bool (isNum 1 g && (es.all isEv && nondec (timesOf es)))
              have e := nondec_le2 (timesOf es)
              rw [timesOf_len] at e
              rw [e, h1, hc']; rfl
        | _ =>
          fail "w"
          show PyData.bool false = PyData.bool (rowD (.tuple [g, _]))
          rfl
      · fail "w"
        show PyData.bool false = PyData.bool (rowD (.tuple [g, evs]))
        cases evs with
        | tuple es => show PyData.bool false = PyData.bool (isNum 1 g && _); rw [h1]; rfl
        | _ => rfl
theorem ok_chk (F : L2.Fun K "check_row" "check_row" sChk f fd) (bi : Bi mg) (c1 : Cal P w K mg base 3 "is_row" ["thing"] (spF 1 preD fRow)) :
    FnG P w K mg base 4 f fd ["row"] (spF 1 preR fun _ => .none) := by
  refine fnD F scsChk _ _ fun cdv A outer s H hg hr => ?_
  refine' ⟨_, ?h1, ?h2⟩
  case h1 =>
    have km : KMark K := ⟨⟩
    have nd : (["row"] : List Str).Nodup := by decide +kernel
    have : (["row"] : List Str)[0]? = some ("row" : Str) := rfl
    fail "fTop"
  case h2 =>
    rintro ds hl ⟨d, rfl, hd, hd2⟩
    try dsimp only [cxK, blkK]
    show EvS K _ [some (.dat d)] _
    fail "w"
    refine ⟨⟨_, rfl, hd⟩, rowD d, rfl, fun h => ?_, fun h => ?_⟩
    · rw [hd2] at h; cases h
    · fail "w"; rfl
end


abbrev sNumb : Stmt := tp 32
theorem scsNumb : FnScope ["word", "sign"] ["word"] (defScope sNumb) := ⟨rfl, rfl, rfl, by decide +kernel, rfl, by decide +kernel, by decide +kernel⟩
abbrev sNumbs : Stmt := tp 31
theorem scsNumbs : FnScope ["words", "first", "numbers", "word"] ["words", "first"] (defScope sNumbs) := ⟨rfl, rfl, rfl, by decide +kernel, rfl, by decide +kernel, by decide +kernel⟩
abbrev sCount : Stmt := tp 30
theorem scsCount : FnScope ["words", "first", "numbers"] ["words", "first"] (defScope sCount) := ⟨rfl, rfl, rfl, by decide +kernel, rfl, by decide +kernel, by decide +kernel⟩
abbrev sEvent : Stmt := tp 33
theorem scsEvent : FnScope ["words", "letter", "time"] ["words"] (defScope sEvent) := ⟨rfl, rfl, rfl, by decide +kernel, rfl, by decide +kernel, by decide +kernel⟩
/-! ### numbers in texts -/
abbrev nl : Str := "\n"
theorem e0 : (Str.ofString "0").cps.toList = [48] := by decide +kernel
theorem e9 : (Str.ofString "9").cps.toList = [57] := by decide +kernel
abbrev sp1 : Str := " "
def dig (c : Nat) : Bool := decide (48 ≤ c ∧ c ≤ 57)
def digD : PyData → Bool
  | .str x => match x.cps.toList with
    | [c] => dig c
    | _ => false
  | _ => false
/-- the number that a text writes -/
def numOf (w : Str) : Option Nat :=
  if decide (1 ≤ w.length) && (decide (w.length ≤ 30) && w.cps.toList.all dig) then
    (if decide (w.cps.toList.head? = some 48) && !decide (w = "0") then none else some (NumText.digitsVal w.cps.toList))
  else none
def numP (w : Str) : PyData := match numOf w with
  | some n => .int n
  | none => .none
theorem signs_dig (x : Str) : (FD.signs x).all digD = x.cps.toList.all dig := by
  unfold FD.signs
  rw [List.all_map]
  rfl
def preS : List PyData → Prop := fun ds => ∃ w : Str, ds = [.str w] ∧ w.length ≤ 1000
def fNumb : List PyData → PyData
  | [.str w] => numP w
  | _ => .none
section
variable {P : Program} {w : World} {K : PySem.W.Frag} {mg : Str → Option Value} {base : Heap} {f : Addr} {fd : FuncData}
theorem ok_numb (F : L2.Fun K "read_number" "read_number" sNumb f fd) (bi : Bi mg) {tk : Tok} (hM : mg "MOST_FIGURES" = some (.int 30 tk)) :
    FnG P w K mg base 2 f fd ["word"] (spF 1 preS fNumb) := by
  refine fnD F scsNumb _ _ fun cdv A outer s H hg hr => ?_
  refine' ⟨_, ?h1, ?h2⟩
  case h1 =>
    have km : KMark K := ⟨⟩
    have nd : (["word", "sign"] : List Str).Nodup := by decide +kernel
    have : (["word", "sign"] : List Str)[0]? = some ("word" : Str) := rfl
    have : (["word", "sign"] : List Str)[1]? = some ("sign" : Str) := rfl
    fail "fTop"
  case h2 =>
    rintro ds hl ⟨x, rfl, hd⟩
    show EvS K _ [some (.dat (.str x)), none] _
    have hx : x.length ≤ sizeLine := Nat.le_trans hd (by decide)
    fail "w"
    refine rc_lenS hx ?_
    fail "w"
    · rename_i h1 h2
      refine ev_map (fun d => .bool (digD d)) (ei_str (ev_var rfl ⟨x, rfl, ?_, ?_, ?_⟩))
      · show (x.cps.toList.map _).length ≤ _
        rw [List.length_map, Array.length_toList]
        exact Nat.le_trans hd (by decide)
      · intro d hd'
        obtain ⟨c, hc, rfl⟩ := List.mem_map.mp hd'
        fail "w"
        · rename_i h
          have h' : ¬ [c] < [48] := by simpa [e0] using h
          rw [one_lt] at h'
          rw [e9]
          show PyData.bool (!decide ([57] < [c])) = PyData.bool (decide (48 ≤ c ∧ c ≤ 57))
          congr 1
          by_cases q : 57 < c
          · rw [decide_eq_true ((one_lt 57 c).mpr q), decide_eq_false (by omega)]; rfl
          · rw [decide_eq_false (fun z => q ((one_lt 57 c).mp z)), decide_eq_true (by omega)]; rfl
        · rename_i h
          have h' : [c] < [48] := by simpa [e0] using h
          rw [one_lt] at h'
          show PyData.bool false = PyData.bool (decide (48 ≤ c ∧ c ≤ 57))
          rw [decide_eq_false (by omega)]
      · refine ea_nil (rc_allM ⟨_, rfl, fun h => ?_, fun h => ?_⟩)
        · fail "w"
          show PyData.none = numP x
          have hall : x.cps.toList.all dig = false := by
            rw [← signs_dig]
            simpa using h
          unfold numP numOf
          rw [hall, Bool.and_false, Bool.and_false]; rfl
        · have hall : x.cps.toList.all dig = true := by
            rw [← signs_dig]
            simpa using h
          have l1 : 1 ≤ x.length := by have := of_decide_eq_true h1; omega
          have l2 : x.length ≤ 30 := by have := of_decide_eq_true h2; omega
          obtain ⟨c, r, ex⟩ : ∃ c r, x.cps.toList = c :: r := by
            cases e : x.cps.toList with
            | nil => rw [show x.length = x.cps.toList.length by simp [Str.length], e] at l1; exact absurd l1 (by decide)
            | cons c r => exact ⟨c, r, rfl⟩
          have hat : L2.atI x.cps.toList ((0 : Nat) : Int) = some c := L2.atI_nat (by rw [ex]; rfl)
          have hnum : numP x = if decide (c = 48) && !decide (x = "0") then .none else .int (NumText.digitsVal x.cps.toList) := by
            unfold numP numOf
            rw [hall, decide_eq_true l1, decide_eq_true l2, ex]
            show (match (if true = true then _ else none : Option Nat) with | some n => PyData.int n | none => .none) = _
            rw [if_pos rfl]
            have hh : decide (List.head? (c :: r) = some 48) = decide (c = 48) := by simp
            rw [hh]
            cases decide (c = 48) && !decide (x = "0") <;> rfl
          have hint : PySem.intText? x = some ((NumText.digitsVal x.cps.toList : Nat) : Int) := PySem.intText_digits (fun d hd => by
            have := List.all_eq_true.mp hall d hd
            exact of_decide_eq_true this) (by rw [ex]; exact List.cons_ne_nil _ _) (by omega)
          have e48 : decide ((⟨#[c]⟩ : Str) = "0") = decide (c = 48) := by
            by_cases z : c = 48
            · subst z; decide +kernel
            · rw [decide_eq_false z, decide_eq_false]
              intro w
              have := congrArg (fun y : Str => y.cps.toList) w
              rw [show (("0" : Str)).cps.toList = [48] from e0] at this
              exact z (List.cons.inj this).1
          have fN : fNumb [.str x] = numP x := rfl
          fail "w"
          refine rd_ixS hx hat ?_
          fail "w"
          refine rd_eqS ⟨_, rfl, fun h3 => ?_, fun h3 => ?_⟩
          · fail "w"
            refine rd_neS ⟨_, rfl, fun h4 => ?_, fun h4 => ?_⟩
            · fail "w"
              rw [fN, hnum, ← e48, h3, h4]; rfl
            · fail "w"
              refine rc_intTS hint (by omega) ?_
              rw [fN, hnum, ← e48, h3, h4]; rfl
          · fail "w"
            refine rc_intTS hint (by omega) ?_
            rw [fN, hnum, ← e48, h3]; rfl
    · rename_i h2 h3
      show PyData.none = numP x
      unfold numP numOf
      rw [show decide (x.length ≤ 30) = false from by
        have := of_decide_eq_false h2
        exact decide_eq_false (by omega)]
      rw [Bool.false_and, Bool.and_false]; rfl
    · rename_i h1 h0 h3
      show PyData.none = numP x
      unfold numP numOf
      rw [show decide (1 ≤ x.length) = false from by
        have := of_decide_eq_false h1
        exact decide_eq_false (by omega)]
      rw [Bool.false_and]; rfl
end


/-! ### a line's words -/
def numsF (ws : List Str) (g : Str) : PyData :=
  if !decide (ws.head? = some g) || ((ws.drop 1).map numP).any (fun z => PyData.eqv z .none) then .none else .tuple ((ws.drop 1).map numP)
def wordsOk (ws : List Str) : Prop := ws ≠ [] ∧ ws.length ≤ 1000 ∧ ∀ w ∈ ws, w.length ≤ 1000
def preWF : List PyData → Prop := fun ds => ∃ (ws : List Str) (g : Str), ds = [strD ws, .str g] ∧ wordsOk ws
def ofStrs : List PyData → List Str
  | [] => []
  | .str x :: r => x :: ofStrs r
  | _ :: r => ofStrs r
theorem ofStrs_map : ∀ ws : List Str, ofStrs (ws.map PyData.str) = ws
  | [] => rfl
  | w :: r => congrArg (w :: ·) (ofStrs_map r)
def numQ : PyData → PyData
  | .str w => numP w
  | _ => .none
theorem numP_cases (w : Str) : numP w = .none ∨ ∃ n : Nat, numP w = .int n := by
  unfold numP
  cases numOf w with
  | none => exact .inl rfl
  | some n => exact .inr ⟨n, rfl⟩
theorem fine_num (w : Str) : Fine 1 (numP w) := by
  rcases numP_cases w with e | ⟨n, e⟩ <;> rw [e]
  · exact ⟨rfl, by simp [PyData.canLay0], Nat.zero_le _⟩
  · exact ⟨rfl, by simp [PyData.canLay0], Nat.zero_le _⟩
theorem nums_ok (r : List Str) : eqOk (.list (r.map numP)) = true := fine_eqOk (n := 2) (fine_lst fun d hd => by
  obtain ⟨x, _, rfl⟩ := List.mem_map.mp hd
  exact fine_num x) (by decide)
theorem cut_post (evs : List PyData) {i : Nat} (h : i ≤ evs.length) : FD.cutD evs (some (i : Int)) none = evs.drop i := by
  unfold FD.cutD
  rw [HT.sIx_none, HT.sIx_nat, Nat.min_eq_left h]
  exact List.take_of_length_le (by rw [List.length_drop]; exact Nat.le_refl _)
def fNumbs : List PyData → PyData
  | [.list ds, .str g] => numsF (ofStrs ds) g
  | _ => .none
def countF (ws : List Str) (g : Str) : PyData := match numsF ws g with
  | .tuple [d] => d
  | _ => .none
def fCount : List PyData → PyData
  | [.list ds, .str g] => countF (ofStrs ds) g
  | _ => .none
def eventF : List Str → PyData
  | [a, w] => if isLet (.str a) && !isNone (numP w) then .tuple [.str a, numP w] else .none
  | _ => .none
theorem nums_cases (ws : List Str) (g : Str) : numsF ws g = .none ∨ ∃ ds : List PyData, numsF ws g = .tuple ds ∧ ds.length ≤ ws.length := by
  unfold numsF
  split
  · exact .inl rfl
  · exact .inr ⟨_, rfl, by rw [List.length_map, List.length_drop]; omega⟩
def preW : List PyData → Prop := fun ds => ∃ (ws : List Str), ds = [strD ws] ∧ wordsOk ws
def fEvent : List PyData → PyData
  | [.list ds] => eventF (ofStrs ds)
  | _ => .none
section
variable {P : Program} {w : World} {K : PySem.W.Frag} {mg : Str → Option Value} {base : Heap} {f : Addr} {fd : FuncData}
theorem ok_numbs (F : L2.Fun K "read_numbers" "read_numbers" sNumbs f fd) (bi : Bi mg) (c1 : Cal P w K mg base 2 "read_number" ["word"] (spF 1 preS fNumb)) :
    FnG P w K mg base 3 f fd ["words", "first"] (spF 2 preWF fNumbs) := by
  refine fnD F scsNumbs _ _ fun cdv A outer s H hg hr => ?_
  refine' ⟨_, ?h1, ?h2⟩
  case h1 =>
    have km : KMark K := ⟨⟩
    have nd : (["words", "first", "numbers", "word"] : List Str).Nodup := by decide +kernel
    have : (["words", "first", "numbers", "word"] : List Str)[0]? = some ("words" : Str) := rfl
    have : (["words", "first", "numbers", "word"] : List Str)[1]? = some ("first" : Str) := rfl
    have : (["words", "first", "numbers", "word"] : List Str)[2]? = some ("numbers" : Str) := rfl
    have : (["words", "first", "numbers", "word"] : List Str)[3]? = some ("word" : Str) := rfl
    fail "fTop"
  case h2 =>
    rintro ds hl ⟨ws, g, rfl, hw⟩
    show EvS K _ [some (.dat (strD ws)), some (.dat (.str g)), none, none] _
    obtain ⟨h1, h2, h3⟩ := hw
    obtain ⟨a, r, rfl⟩ : ∃ a r, ws = a :: r := by
      cases ws with
      | nil => exact absurd rfl h1
      | cons a r => exact ⟨a, r, rfl⟩
    have cut : FD.cutD ((a :: r).map PyData.str) (some 1) none = r.map PyData.str := cut_post ((a :: r).map PyData.str) (i := 1) (by simp)
    have eqo : eqOk (.list (r.map numP)) = true := nums_ok r
    have unf : fNumbs [strD (a :: r), .str g] = numsF (a :: r) g := by show numsF (ofStrs ((a :: r).map PyData.str)) g = _; rw [ofStrs_map]
    have mp : (r.map PyData.str).map numQ = r.map numP := by rw [List.map_map]; rfl
    refine es_seq (es_asg (ev_map numQ (ei_list (ev_sl ?_))))
    fail "w"
    refine ⟨?_, fun d hd => ?_, ?_⟩
    · rw [cut, List.length_map]; simp at h2; omega
    · rw [cut] at hd
      obtain ⟨x, hx, rfl⟩ := List.mem_map.mp hd
      fail "w"
      exact ⟨⟨x, rfl, h3 x (.tail _ hx)⟩, rfl, rfl⟩
    · rw [cut, mp]
      fail "w"
      refine rd_ixL (d := .str a) (L2.atI_nat (j := 0) rfl) ?_
      fail "w"
      refine rd_neS ⟨_, rfl, fun h4 => ?_, fun h4 => ?_⟩
      · refine ev_test (ev_op ?_)
        fail "w"
        refine rd_inXD rfl eqo ⟨_, rfl, fun h5 => ?_, fun h5 => ?_⟩
        · fail "w"
          show PyData.none = fNumbs [strD (a :: r), .str g]
          rw [unf]
          unfold numsF
          have hh : decide ((a :: r).head? = some g) = decide (a = g) := by simp
          rw [hh, h4]
          show PyData.none = if (false || (r.map numP).any fun z => PyData.eqv z .none) = true then _ else _
          rw [h5]; rfl
        · fail "w"
          show PyData.tuple (r.map numP) = fNumbs [strD (a :: r), .str g]
          rw [unf]
          unfold numsF
          have hh : decide ((a :: r).head? = some g) = decide (a = g) := by simp
          rw [hh, h4]
          show PyData.tuple (r.map numP) = if (false || (r.map numP).any fun z => PyData.eqv z .none) = true then _ else _
          rw [h5]; rfl
      · refine ⟨fun _ => ?_, fun z => by cases z⟩
        fail "w"
        show PyData.none = fNumbs [strD (a :: r), .str g]
        rw [unf]
        unfold numsF
        have hh : decide ((a :: r).head? = some g) = decide (a = g) := by simp
        rw [hh, h4]; rfl
theorem ok_count (F : L2.Fun K "read_count" "read_count" sCount f fd) (bi : Bi mg) (c1 : Cal P w K mg base 3 "read_numbers" ["words", "first"] (spF 2 preWF fNumbs)) :
    FnG P w K mg base 4 f fd ["words", "first"] (spF 2 preWF fCount) := by
  refine fnD F scsCount _ _ fun cdv A outer s H hg hr => ?_
  refine' ⟨_, ?h1, ?h2⟩
  case h1 =>
    have km : KMark K := ⟨⟩
    have nd : (["words", "first", "numbers"] : List Str).Nodup := by decide +kernel
    have : (["words", "first", "numbers"] : List Str)[0]? = some ("words" : Str) := rfl
    have : (["words", "first", "numbers"] : List Str)[1]? = some ("first" : Str) := rfl
    have : (["words", "first", "numbers"] : List Str)[2]? = some ("numbers" : Str) := rfl
    fail "fTop"
  case h2 =>
    rintro ds hl ⟨ws, g, rfl, hw⟩
    show EvS K _ [some (.dat (strD ws)), some (.dat (.str g)), none] _
    fail "w"
    refine ⟨⟨ws, g, rfl, hw⟩, ?_⟩
    have unf : fNumbs [strD ws, .str g] = numsF ws g := by show numsF (ofStrs (ws.map PyData.str)) g = _; rw [ofStrs_map]
    have unf2 : fCount [strD ws, .str g] = countF ws g := by show countF (ofStrs (ws.map PyData.str)) g = _; rw [ofStrs_map]
    rw [unf, unf2]
    unfold countF
    rcases nums_cases ws g with e | ⟨ds, e, hds⟩
    · rw [e]
      fail "w"
      exact rfl
    · rw [e]
      match ds with
      | [d] =>
        fail "w"
        all_goals rfl
      | [] =>
        fail "w"
        all_goals rfl
      | a :: b :: r =>
        fail "w"
        all_goals first | rfl | (rename_i hc; exact absurd hc (by simp [PyData.eqv]; omega))
theorem ok_event (F : L2.Fun K "read_event" "read_event" sEvent f fd) (bi : Bi mg) (c1 : Cal P w K mg base 2 "read_number" ["word"] (spF 1 preS fNumb)) (c2 : Cal P w K mg base 1 "is_letter" ["thing"] (spF 1 preD fLet)) :
    FnG P w K mg base 3 f fd ["words"] (spF 1 preW fEvent) := by
  refine fnD F scsEvent _ _ fun cdv A outer s H hg hr => ?_
  refine' ⟨_, ?h1, ?h2⟩
  case h1 =>
    have km : KMark K := ⟨⟩
    have nd : (["words", "letter", "time"] : List Str).Nodup := by decide +kernel
    have : (["words", "letter", "time"] : List Str)[0]? = some ("words" : Str) := rfl
    have : (["words", "letter", "time"] : List Str)[1]? = some ("letter" : Str) := rfl
    have : (["words", "letter", "time"] : List Str)[2]? = some ("time" : Str) := rfl
    fail "fTop"
  case h2 =>
    rintro ds hl ⟨ws, rfl, hw⟩
    show EvS K _ [some (.dat (strD ws)), none, none] _
    have unf : fEvent [strD ws] = eventF ws := by show eventF (ofStrs (ws.map PyData.str)) = _; rw [ofStrs_map]
    rw [unf]
    obtain ⟨h1, h2, h3⟩ := hw
    match ws, h2, h3 with
    | [a, x], h2, h3 =>
      fail "w"
      have sa : sm (.str a) = true := by have := h3 a (by simp); simpa [sm] using this
      refine ⟨⟨x, rfl, h3 x (by simp)⟩, ?_⟩
      fail "w"
      refine ⟨_, _, rfl, ?_⟩
      fail "w"
      refine ⟨⟨_, rfl, sa⟩, ?_⟩
      have ev : eventF [a, x] = if isLet (.str a) && !isNone (numP x) then .tuple [.str a, numP x] else .none := rfl
      have fl : fLet [.str a] = .bool (isLet (.str a)) := rfl
      have fn : fNumb [.str x] = numP x := rfl
      rw [fl, fn]
      fail "w"
      · rename_i q1 q2
        refine ⟨(show (2 : Nat) ≤ sizeLine by rw [sizeLine_eq]; decide), ?_⟩
        show _ = eventF [a, x]
        rw [ev, q1, q2]; rfl
      · rename_i q1 q2
        show _ = eventF [a, x]
        rw [ev, q1, q2]; rfl
      · rename_i q1 q2
        show _ = eventF [a, x]
        rw [ev, q1]; rfl
    | [], _, _ => exact absurd rfl h1
    | [a], h2, h3 =>
      fail "w"
      · rfl
      all_goals (rename_i hc; exact absurd hc (by simp [PyData.eqv]))
    | a :: b :: c :: r, h2, h3 =>
      fail "w"
      · rfl
      all_goals (rename_i hc; exact absurd hc (by simp [PyData.eqv]; omega))
end


abbrev sLines : Stmt := tp 28
theorem scsLines : FnScope ["text", "line"] ["text"] (defScope sLines) := ⟨rfl, rfl, rfl, by decide +kernel, rfl, by decide +kernel, by decide +kernel⟩
abbrev sParts : Stmt := tp 29
theorem scsParts : FnScope ["parts"] ["parts"] (defScope sParts) := ⟨rfl, rfl, rfl, by decide +kernel, rfl, by decide +kernel, by decide +kernel⟩
abbrev sText : Stmt := tp 26
theorem scsText : FnScope ["row", "grain", "events", "letter", "time"] ["row"] (defScope sText) := ⟨rfl, rfl, rfl, by decide +kernel, rfl, by decide +kernel, by decide +kernel⟩
/-! ### lines -/
def textOk (x : Str) : Prop := x.length ≤ 900
def linesF (x : Str) : List (List Str) := (Txt.split x nl).map fun l => Txt.split l sp1
def linesD (L : List (List Str)) : PyData := .list (L.map strD)
def preX : List PyData → Prop := fun ds => ∃ x : Str, ds = [.str x] ∧ textOk x
def postLines : List PyData → PyData → Prop := fun ds d => ∃ x : Str, ds = [.str x] ∧ d = linesD (linesF x)
/-- the first of them that is none -/
def firstNone : List PyData → Option Nat
  | [] => none
  | d :: r => if isNone d then some 0 else (firstNone r).map (· + 1)
def lineQ : PyData → PyData
  | .str l => strD (Txt.split l sp1)
  | _ => .none
theorem joinL_short (s : Nat) (S : List Nat) : ∀ (parts : List (List Nat)) (p : List Nat), p ∈ parts → p.length ≤ (TL.joinL (s :: S) parts).length
  | [], p, h => by cases h
  | [q], p, h => by
    rcases List.mem_cons.mp h with rfl | h
    · exact Nat.le_refl _
    · cases h
  | q :: r :: t, p, h => by
    have e : TL.joinL (s :: S) (q :: r :: t) = q ++ (s :: S ++ TL.joinL (s :: S) (r :: t)) := rfl
    rw [e, List.length_append, List.length_append]
    rcases List.mem_cons.mp h with rfl | h
    · omega
    · have := joinL_short s S (r :: t) p h
      omega
theorem joinL_few (s : Nat) (S : List Nat) : ∀ (parts : List (List Nat)), parts.length ≤ (TL.joinL (s :: S) parts).length + 1
  | [] => by simp
  | [q] => by simp
  | q :: r :: t => by
    have e : TL.joinL (s :: S) (q :: r :: t) = q ++ (s :: S ++ TL.joinL (s :: S) (r :: t)) := rfl
    rw [e, List.length_append, List.length_append]
    have := joinL_few s S (r :: t)
    simp only [List.length_cons] at this ⊢
    omega
theorem split_joinL (x y : Str) : TL.joinL (TL.tl y) ((Txt.split x y).map TL.tl) = TL.tl x := by
  rw [← TL.tl_join, PySem.StrLaws.join_split]
theorem split_short (x : Str) {y : Str} {s : Nat} {S : List Nat} (hy : TL.tl y = s :: S) (_h : True) : ∀ l ∈ Txt.split x y, l.length ≤ x.length := fun l hl => by
  have e := split_joinL x y
  rw [hy] at e
  have := joinL_short s S _ (TL.tl l) (List.mem_map_of_mem hl)
  rw [e, ← TL.len_tl, ← TL.len_tl] at this
  exact this
theorem split_few (x : Str) {y : Str} {s : Nat} {S : List Nat} (hy : TL.tl y = s :: S) : (Txt.split x y).length ≤ x.length + 1 := by
  have e := split_joinL x y
  rw [hy] at e
  have := joinL_few s S ((Txt.split x y).map TL.tl)
  rw [e, List.length_map, ← TL.len_tl] at this
  exact this
theorem nl_tl : TL.tl nl = [10] := by decide +kernel
theorem sp_tl : TL.tl sp1 = [32] := by decide +kernel
theorem eqv_none (z : PyData) : PyData.eqv z .none = isNone z := by cases z <;> rfl
theorem first_some : ∀ {ds : List PyData}, (ds.any isNone) = true → ∃ k, firstNone ds = some k ∧ ds[k]? = some .none ∧ ∀ m z', m < k → ds[m]? = some z' → isNone z' = false
  | [], h => by cases h
  | d :: r, h => by
    cases e : isNone d with
    | true =>
      refine ⟨0, by show (if isNone d = true then _ else _) = _; rw [e]; rfl, ?_, fun m z' hm => by omega⟩
      cases d <;> first | rfl | cases e
    | false =>
      rw [List.any_cons, e, Bool.false_or] at h
      obtain ⟨k, h1, h2, h3⟩ := first_some h
      refine ⟨k + 1, by show (if isNone d = true then _ else _) = _; rw [e, h1]; rfl, h2, fun m z' hm hz => ?_⟩
      cases m with
      | zero =>
        obtain rfl := Option.some.inj hz
        exact e
      | succ m => exact h3 m z' (by omega) hz
theorem first_none : ∀ {ds : List PyData}, (ds.any isNone) = false → firstNone ds = none
  | [], _ => rfl
  | d :: r, h => by
    rw [List.any_cons, Bool.or_eq_false_iff] at h
    show (if isNone d = true then _ else _) = _
    rw [h.1, first_none h.2]; rfl
theorem small_log {i : Int} (h : i.natAbs < 1000000) : i.natAbs.log2 < 1000 := by
  by_cases z : i.natAbs = 0
  · rw [z]; decide
  · refine (Nat.log2_lt z).mpr (Nat.lt_trans h ?_)
    exact Nat.lt_of_lt_of_le (show 1000000 < 2 ^ 20 by decide) (Nat.pow_le_pow_right (by decide) (by decide))
def preP : List PyData → Prop := fun ds => ∃ ps : List PyData, ds = [.list ps] ∧ eqOk (.list ps) = true ∧ ps.length ≤ 2000
theorem len_app (a b : Str) : (a ++ b).length = a.length + b.length := by
  rw [TL.len_tl, TL.tl_append, List.length_append, ← TL.len_tl, ← TL.len_tl]
def numS (i : Int) : Str := Str.ofString (toString i)
theorem numS_len {i : Int} (h0 : 0 ≤ i) (h : i.natAbs < 1000000) : (numS i).length ≤ 6 := by
  obtain ⟨n, rfl⟩ := Int.eq_ofNat_of_zero_le h0
  rw [TL.len_tl]
  unfold numS
  rw [TL.tl_num]
  exact TL.numL_len (by decide) (by simpa using h)
theorem let_str {a : PyData} (h : isLet a = true) : ∃ (z : Str) (c : Nat), a = .str z ∧ z = ⟨#[c]⟩ ∧ 97 ≤ c ∧ c ≤ 122 := by
  cases a with
  | str z =>
    obtain ⟨⟨l⟩⟩ := z
    match l, h with
    | [c], h => exact ⟨_, c, rfl, rfl, of_decide_eq_true h⟩
    | [], h => cases h
    | _ :: _ :: _, h => cases h
  | _ => cases h
def evTxt : PyData → Str
  | .tuple [.str a, .int t] => Str.empty ++ a ++ sp1 ++ numS t
  | _ => ""
def rowTxt (g : Int) (es : List PyData) : Str := Txt.join nl ((Str.empty ++ "grain " ++ numS g) :: es.map evTxt)
def fText : List PyData → PyData
  | [.tuple [.int g, .tuple es]] => .str (rowTxt g es)
  | _ => .none
def preRT : List PyData → Prop := fun ds => ∃ g es, ds = [.tuple [.int g, .tuple es]] ∧ sm (.tuple [.int g, .tuple es]) = true ∧ rowD (.tuple [.int g, .tuple es]) = true ∧ g.natAbs < 1000000 ∧ (∀ a t, PyData.tuple [a, .int t] ∈ es → t.natAbs < 1000000) ∧ es.length ≤ 100
section
variable {P : Program} {w : World} {K : PySem.W.Frag} {mg : Str → Option Value} {base : Heap} {f : Addr} {fd : FuncData} {C : Addr}
theorem ok_lines (F : L2.Fun K "lines_of" "lines_of" sLines f fd) (bi : Bi mg) (en : ErrN P w K mg base "NoText" C) :
    FnX P w K mg base 3 f fd ["text"] (spXN C 1 preX postLines fun _ _ => False) := by
  refine fnXN C F scsLines _ _ _ fun cdv A outer s H E hg hr tk => ?_
  refine' ⟨_, ?h1, ?h2⟩
  case h1 =>
    have km : KMark K := ⟨⟩
    have nd : (["text", "line"] : List Str).Nodup := by decide +kernel
    have : (["text", "line"] : List Str)[0]? = some ("text" : Str) := rfl
    have : (["text", "line"] : List Str)[1]? = some ("line" : Str) := rfl
    fail "fTop"
  case h2 =>
    rintro ds hl ⟨x, rfl, hx⟩
    show EvSN K _ C _ [some (.dat (.str x)), none] _ _
    have hx1 : x.length ≤ 900 := hx
    refine en_seq (en_if ?_)
    fail "w"
    refine en_of (es_next ?_)
    dsimp only
    refine en_of (es_ret (ev_map lineQ (ei_list ?_)))
    fail "w"
    refine ⟨by rw [sizeLine_eq]; omega, ?_⟩
    refine ⟨_, rfl, ?_, fun d hd => ?_, ?_⟩
    · rw [List.length_map]
      have q : (Txt.split x (Str.ofString "\n")).length ≤ x.length + 1 := split_few x nl_tl
      omega
    · obtain ⟨l, hl', rfl⟩ := List.mem_map.mp hd
      have q : l.length ≤ x.length := split_short x nl_tl trivial l hl'
      fail "w"
      exact ⟨by rw [sizeLine_eq]; omega, rfl, rfl⟩
    · refine ⟨x, rfl, ?_⟩
      show PyData.list (((Txt.split x nl).map PyData.str).map lineQ) = .list (((Txt.split x nl).map fun l => Txt.split l sp1).map strD)
      rw [List.map_map, List.map_map]; rfl
theorem ok_parts (F : L2.Fun K "check_parts" "check_parts" sParts f fd) (bi : Bi mg) (en : ErrN P w K mg base "NoText" C) :
    FnX P w K mg base 3 f fd ["parts"] (spXN C 1 preP (fun ds d => ∃ ps, ds = [.list ps] ∧ firstNone ps = none) fun ds n => ∃ ps k, ds = [.list ps] ∧ firstNone ps = some k ∧ n = (k : Int) + 1) := by
  refine fnXN C F scsParts _ _ _ fun cdv A outer s H E hg hr tk => ?_
  refine' ⟨_, ?h1, ?h2⟩
  case h1 =>
    have km : KMark K := ⟨⟩
    have nd : (["parts"] : List Str).Nodup := by decide +kernel
    have : (["parts"] : List Str)[0]? = some ("parts" : Str) := rfl
    fail "fTop"
  case h2 =>
    rintro ds hl ⟨ps, rfl, hp, hz⟩
    show EvSN K _ C _ [some (.dat (.list ps))] _ _
    refine en_if ?_
    fail "w"
    refine rd_inXD rfl hp ⟨_, rfl, fun h => ?_, fun h => ?_⟩
    · obtain ⟨k, hk, h1, h2⟩ := first_some (by simpa only [eqv_none] using h)
      refine en_raise (ev_op (ev_indexD (ev_var rfl ⟨ps, rfl, hp, ev_non ⟨rfl, k, .none, h1, rfl, fun m z' hm hz' => ?_, ?_⟩⟩)))
      · rw [eqv_none]; exact h2 m z' hm hz'
      · have hk2 : k < ps.length := (List.getElem?_eq_some_iff.mp h1).1
        fail "w"
        exact ⟨small_log (by omega), ps, k, rfl, hk, rfl⟩
    · refine en_of (es_next ?_)
      exact ⟨ps, rfl, first_none (by simpa only [eqv_none] using h)⟩
theorem ok_text (F : L2.Fun K "row_text" "row_text" sText f fd) (bi : Bi mg) (c1 : Cal P w K mg base 4 "check_row" ["row"] (spF 1 preR fun _ => .none)) :
    FnG P w K mg base 5 f fd ["row"] (spF 1 preRT fText) := by
  refine fnD F scsText _ _ fun cdv A outer s H hg hr => ?_
  refine' ⟨_, ?h1, ?h2⟩
  case h1 =>
    have km : KMark K := ⟨⟩
    have nd : (["row", "grain", "events", "letter", "time"] : List Str).Nodup := by decide +kernel
    have : (["row", "grain", "events", "letter", "time"] : List Str)[0]? = some ("row" : Str) := rfl
    have : (["row", "grain", "events", "letter", "time"] : List Str)[1]? = some ("grain" : Str) := rfl
    have : (["row", "grain", "events", "letter", "time"] : List Str)[2]? = some ("events" : Str) := rfl
    have : (["row", "grain", "events", "letter", "time"] : List Str)[3]? = some ("letter" : Str) := rfl
    have : (["row", "grain", "events", "letter", "time"] : List Str)[4]? = some ("time" : Str) := rfl
    fail "fTop"
  case h2 =>
    rintro ds hl ⟨g, es, rfl, hd, hd2, hg1, hes, hn⟩
    show EvS K _ [some (.dat (.tuple [.int g, .tuple es])), none, none, none, none] _
    have hev : es.all isEv = true := by
      have h := hd2
      have h' : (isNum 1 (.int g) && (es.all isEv && nondec (timesOf es))) = true := h
      simp only [Bool.and_eq_true] at h'
      exact h'.2.1
    fail "w"
    refine es_drop ?_
    fail "w"
    refine ⟨⟨_, rfl, hd, hd2⟩, ?_⟩
    fail "w"
    have e6 : (Str.empty ++ Str.ofString "grain ").length = 6 := by decide +kernel
    have hg0 : 0 ≤ g := by
      have h := hd2
      have h' : (isNum 1 (.int g) && (es.all isEv && nondec (timesOf es))) = true := h
      simp only [Bool.and_eq_true] at h'
      have := of_decide_eq_true h'.1
      omega
    have gl : (numS g).length ≤ 6 := numS_len hg0 hg1
    have gl2 : (Str.empty ++ Str.ofString "grain " ++ numS g).length ≤ 20 := by rw [len_app]; omega
    refine ⟨by rw [e6, sizeLine_eq]; decide, ?_⟩
    refine ej_cons (ev_fmtI (ev_var rfl ⟨g, rfl, Nat.lt_trans (small_log hg1) (by decide), ⟨_, rfl, ?_, ej_nil (ea_nil ⟨?_, ?_⟩)⟩⟩))
    · show (Str.empty ++ Str.ofString "grain " ++ numS g).length ≤ sizeLine
      rw [sizeLine_eq]; omega
    · show (1 : Nat) ≤ sizeLine
      rw [sizeLine_eq]; decide
    · refine ev_mapT (xs := es) (fun d => .str (evTxt d)) (ei_tup (ev_var rfl ⟨_, rfl, rfl, rfl⟩)) ?_ rfl (fun a b => rfl) (by omega) ?_ ?_
      · intro k s hk hm
        rcases List.mem_cons.mp hm with rfl | hm
        · cases hk
        · rcases List.mem_cons.mp hm with rfl | hm
          · cases hk
          · cases hm
      · intro d hdm
        obtain ⟨a, t, rfl, ha, ht⟩ := isEv_shape (List.all_eq_true.mp hev d hdm)
        obtain ⟨z, c, rfl, hzl⟩ := let_str ha
        have tl6 : (numS t).length ≤ 6 := numS_len ht (hes _ _ hdm)
        refine ⟨_, _, rfl, ev_fs (ej_cons (ev_fmtS (ev_var rfl ⟨_, rfl, ?_, ⟨_, rfl, ?_, ej_cons (ev_str ⟨_, rfl, ?_, ej_cons (ev_fmtI (ev_var rfl ⟨t, rfl, Nat.lt_trans (small_log (hes _ _ hdm)) (by decide), ⟨_, rfl, ?_, ej_nil ⟨rfl, rfl⟩⟩⟩))⟩)⟩⟩)))⟩
        · rw [hzl.1, sizeLine_eq]; show (1 : Nat) ≤ _; decide
        · rw [len_app, hzl.1, sizeLine_eq]; show (0 : Nat) + 1 ≤ _; decide
        · rw [len_app, len_app, hzl.1, sizeLine_eq]; show (0 : Nat) + 1 + 1 ≤ _; decide
        · show (Str.empty ++ z ++ sp1 ++ numS t).length ≤ sizeLine
          rw [len_app, len_app, len_app, hzl.1, sizeLine_eq]
          show (0 : Nat) + 1 + 1 + _ ≤ _
          omega
      · refine rd_plusL ?_ ?_
        · rw [List.length_map, sizeLine_eq]; show (1 : Nat) + _ ≤ _; omega
        · refine ⟨(Str.empty ++ "grain " ++ numS g) :: es.map evTxt, ?_, ?_, rfl⟩
          · show PyData.list (_ :: es.map fun d => PyData.str (evTxt d)) = PyData.list (_ :: (es.map evTxt).map PyData.str)
            rw [List.map_map]; rfl
          · have h1 := StrLaws.sumLen_le (B := 20) ((Str.empty ++ "grain " ++ numS g) :: es.map evTxt) (fun y hy => by
              rcases List.mem_cons.mp hy with rfl | hy
              · exact gl2
              · obtain ⟨d, hdm, rfl⟩ := List.mem_map.mp hy
                obtain ⟨a, t, rfl, ha, ht⟩ := isEv_shape (List.all_eq_true.mp hev d hdm)
                obtain ⟨z, c, rfl, hzl⟩ := let_str ha
                have tl6 : (numS t).length ≤ 6 := numS_len ht (hes _ _ hdm)
                show (Str.empty ++ z ++ sp1 ++ numS t).length ≤ 20
                rw [len_app, len_app, len_app, hzl.1]
                show (0 : Nat) + 1 + 1 + _ ≤ _
                omega)
            have h2 : (Str.ofString "\n").length = 1 := by decide +kernel
            rw [h2]
            rw [List.length_cons, List.length_map] at h1 ⊢
            omega
end


abbrev sRead : Stmt := tp 27
theorem scsRead : FnScope ["text", "lines", "parts", "row", "k", "words"] ["text"] (defScope sRead) := ⟨rfl, rfl, rfl, by decide +kernel, rfl, by decide +kernel, by decide +kernel⟩
/-! ### reading a row -/
def partF (L : List (List Str)) (n : Nat) : PyData := if decide (0 < n) then eventF (L.getD n []) else countF (L.getD n []) "grain"
def partsF (L : List (List Str)) : List PyData := (List.range L.length).map (partF L)
theorem split_ne (x y : Str) : Txt.split x y ≠ [] := by
  unfold Txt.split
  split
  · simp
  · split
    · simp
    · rw [PySem.StrLaws.partsBetween_eq]
      obtain ⟨p, r, e⟩ := PySem.StrLaws.partsFrom_ne x y.length 0 (Builtin.Str.occurrences x y 0 x.length (x.length + 1))
      rw [e]; simp
theorem lines_few {x : Str} (h : textOk x) : (linesF x).length ≤ 901 := by
  unfold linesF
  rw [List.length_map]
  have h' : x.length ≤ 900 := h
  have := split_few x nl_tl
  omega
theorem lines_ne (x : Str) : linesF x ≠ [] := by
  unfold linesF
  intro h
  exact split_ne x nl (List.map_eq_nil_iff.mp h)
theorem lines_ok {x : Str} (h : textOk x) : ∀ ws ∈ linesF x, wordsOk ws := fun ws hw => by
  have h' : x.length ≤ 900 := h
  obtain ⟨l, hl, rfl⟩ := List.mem_map.mp hw
  have q := split_short x nl_tl trivial l hl
  have q2 := split_few l sp_tl
  refine ⟨split_ne l sp1, by omega, fun w hw => ?_⟩
  have := split_short l sp_tl trivial w hw
  omega
theorem event_shape (ws : List Str) : eventF ws = .none ∨ ∃ (a : Str) (n : Nat), eventF ws = .tuple [.str a, .int n] ∧ isLet (.str a) = true := by
  match ws with
  | [a, w] =>
    have e : eventF [a, w] = if isLet (.str a) && !isNone (numP w) then .tuple [.str a, numP w] else .none := rfl
    rw [e]
    cases h : isLet (.str a) with
    | false => exact .inl rfl
    | true =>
      rcases numP_cases w with e | ⟨n, e⟩
      · rw [e]; exact .inl rfl
      · rw [e]; exact .inr ⟨a, n, rfl, h⟩
  | [] => exact .inl rfl
  | [_] => exact .inl rfl
  | _ :: _ :: _ :: _ => exact .inl rfl
theorem count_shape (ws : List Str) (g : Str) : countF ws g = .none ∨ ∃ n : Nat, countF ws g = .int n := by
  unfold countF numsF
  split
  · rename_i d h
    split at h
    · cases h
    · match e : ws.drop 1, h with
      | [], h => cases h
      | [w], h =>
        cases h
        rcases numP_cases w with q | ⟨n, q⟩
        · exact .inl q
        · exact .inr ⟨n, q⟩
      | _ :: _ :: _, h => cases h
  · exact .inl rfl
theorem part_shape (L : List (List Str)) (n : Nat) : partF L n = .none ∨ (∃ k : Nat, partF L n = .int k) ∨ ∃ (a : Str) (k : Nat), partF L n = .tuple [.str a, .int k] ∧ isLet (.str a) = true := by
  unfold partF
  split
  · rcases event_shape (L.getD n []) with e | ⟨a, k, e, h⟩
    · exact .inl e
    · exact .inr (.inr ⟨a, k, e, h⟩)
  · rcases count_shape (L.getD n []) "grain" with e | ⟨k, e⟩
    · exact .inl e
    · exact .inr (.inl ⟨k, e⟩)
theorem part_fine (L : List (List Str)) (n : Nat) : Fine 2 (partF L n) := by
  rcases part_shape L n with e | ⟨k, e⟩ | ⟨a, k, e, h⟩ <;> rw [e]
  · exact ⟨rfl, by simp [PyData.canLay0], Nat.zero_le _⟩
  · exact ⟨rfl, by simp [PyData.canLay0], Nat.zero_le _⟩
  · refine fine_tup fun d hd => ?_
    rcases List.mem_cons.mp hd with rfl | hd
    · obtain ⟨z, c, e, rfl, hc⟩ := let_str h
      rw [e]
      exact fine_let (by omega) 1
    · rcases List.mem_cons.mp hd with rfl | hd
      · exact ⟨rfl, by simp [PyData.canLay0], Nat.zero_le _⟩
      · cases hd
theorem parts_ok (L : List (List Str)) : eqOk (.list (partsF L)) = true := fine_eqOk (n := 3) (fine_lst fun d hd => by
  obtain ⟨n, _, rfl⟩ := List.mem_map.mp hd
  exact part_fine L n) (by decide)
theorem part_sm (L : List (List Str)) (n : Nat) : sm (partF L n) = true := by
  rcases part_shape L n with e | ⟨k, e⟩ | ⟨a, k, e, h⟩ <;> rw [e]
  · rfl
  · rfl
  · obtain ⟨z, c, e, rfl, hc⟩ := let_str h
    rw [e]
    simp [sm, smA, Str.length]
/-- what a text writes: a row, or the number of the line where it fails -/
inductive Rd where
  | row (d : PyData)
  | bad (n : Int)
def readF (x : Str) : Rd := match firstNone (partsF (linesF x)) with
  | some k => .bad ((k : Int) + 1)
  | none => match partsF (linesF x) with
    | [] => .bad 0
    | g :: r => if rowD (.tuple [g, .tuple r]) then .row (.tuple [g, .tuple r]) else .bad ((linesF x).length + 1)
theorem smA_all : ∀ {ds : List PyData}, (∀ d ∈ ds, sm d = true) → smA ds = true
  | [], _ => rfl
  | d :: r, h => by
    show (sm d && smA r) = true
    rw [h d (.head _), smA_all fun e he => h e (.tail _ he)]; rfl
section
variable {P : Program} {w : World} {K : PySem.W.Frag} {mg : Str → Option Value} {base : Heap} {f : Addr} {fd : FuncData} {C : Addr}
theorem ok_read (F : L2.Fun K "read_row" "read_row" sRead f fd) (bi : Bi mg) (hE : mg "enumerate" = none) (en : ErrN P w K mg base "NoText" C)
    (c1 : CalX P w K mg base 3 "lines_of" ["text"] (spXN C 1 preX postLines fun _ _ => False))
    (c2 : CalX P w K mg base 3 "check_parts" ["parts"] (spXN C 1 preP (fun ds d => ∃ ps, ds = [.list ps] ∧ firstNone ps = none) fun ds n => ∃ ps k, ds = [.list ps] ∧ firstNone ps = some k ∧ n = (k : Int) + 1))
    (c3 : Cal P w K mg base 3 "read_event" ["words"] (spF 1 preW fEvent)) (c4 : Cal P w K mg base 4 "read_count" ["words", "first"] (spF 2 preWF fCount)) (c5 : Cal P w K mg base 3 "is_row" ["thing"] (spF 1 preD fRow)) :
    FnX P w K mg base 5 f fd ["text"] (spXN C 1 preX (fun ds d => ∃ x, ds = [.str x] ∧ readF x = .row d) fun ds n => ∃ x, ds = [.str x] ∧ readF x = .bad n) := by
  refine fnXN C F scsRead _ _ _ fun cdv A outer s H E hg hr tk => ?_
  refine' ⟨_, ?h1, ?h2⟩
  case h1 =>
    have km : KMark K := ⟨⟩
    have nd : (["text", "lines", "parts", "row", "k", "words"] : List Str).Nodup := by decide +kernel
    have : (["text", "lines", "parts", "row", "k", "words"] : List Str)[0]? = some ("text" : Str) := rfl
    have : (["text", "lines", "parts", "row", "k", "words"] : List Str)[1]? = some ("lines" : Str) := rfl
    have : (["text", "lines", "parts", "row", "k", "words"] : List Str)[2]? = some ("parts" : Str) := rfl
    have : (["text", "lines", "parts", "row", "k", "words"] : List Str)[3]? = some ("row" : Str) := rfl
    have : (["text", "lines", "parts", "row", "k", "words"] : List Str)[4]? = some ("k" : Str) := rfl
    have : (["text", "lines", "parts", "row", "k", "words"] : List Str)[5]? = some ("words" : Str) := rfl
    fail "fTop"
  case h2 =>
    rintro ds hl ⟨x, rfl, hx⟩
    show EvSN K _ C _ [some (.dat (.str x)), none, none, none, none, none] _ _
    refine en_seq (en_asgC ?_)
    fail "w"
    refine ⟨⟨x, rfl, hx⟩, fun d pd => ?_, fun m pm => pm.elim⟩
    obtain ⟨x', ex, rfl⟩ := pd
    cases ex
    dsimp only
    have hL := lines_few hx
    have hok := lines_ok hx
    refine en_seq (en_of (es_asg (FD.ev_enum2 (xs := (linesF x).map strD) (fun _ => true) (partF (linesF x)) (ei_enumL (ev_var rfl ⟨_, rfl, rfl, rfl⟩)) ?_ rfl (fun a b => rfl) (by rw [List.length_map]; omega) ?_ ?_)))
    · intro k s hk hm
      rcases List.mem_cons.mp hm with rfl | hm
      · cases hk
      · rcases List.mem_cons.mp hm with rfl | hm
        · cases hk
        · cases hm
    · intro n d hn
      rw [List.getElem?_map] at hn
      obtain ⟨ws, hws, rfl⟩ := Option.map_eq_some_iff.mp hn
      have gd : (linesF x).getD n [] = ws := by rw [List.getD_eq_getElem?_getD, hws]; rfl
      have wok := hok ws (List.mem_of_getElem? hws)
      refine eb_yes ⟨rfl, rfl, fun _ => ?_⟩
      fail "w"
      · rename_i hc
        refine ⟨⟨ws, rfl, wok⟩, rfl, ?_⟩
        show eventF (ofStrs (ws.map PyData.str)) = partF (linesF x) n
        rw [ofStrs_map]
        unfold partF
        rw [gd, decide_eq_true (by have := of_decide_eq_true hc; omega)]; rfl
      · rename_i hc
        refine ⟨⟨ws, _, rfl, wok⟩, rfl, ?_⟩
        show countF (ofStrs (ws.map PyData.str)) "grain" = partF (linesF x) n
        rw [ofStrs_map]
        unfold partF
        rw [gd, decide_eq_false (by have := of_decide_eq_false hc; omega)]; rfl
    · have fl : ((List.range ((linesF x).map strD).length).filter fun _ => true).map (partF (linesF x)) = partsF (linesF x) := by
        rw [List.filter_eq_self.mpr (fun _ _ => rfl), List.length_map]; rfl
      rw [fl]
      refine eg_name ?_
      dsimp only
      have pl : (partsF (linesF x)).length = (linesF x).length := by unfold partsF; rw [List.length_map, List.length_range]
      refine en_seq (en_drop ?_)
      fail "w"
      refine ⟨⟨_, rfl, parts_ok _, by omega⟩, fun d pd => ?_, fun m pm => ?_⟩
      · obtain ⟨ps, ep, hnone⟩ := pd
        cases ep
        obtain ⟨g, r, eg⟩ : ∃ g r, partsF (linesF x) = g :: r := by
          cases e : partsF (linesF x) with
          | nil =>
            rw [e] at pl
            exact absurd (List.length_eq_zero_iff.mp pl.symm) (lines_ne x)
          | cons g r => exact ⟨g, r, rfl⟩
        have rF : readF x = if rowD (.tuple [g, .tuple r]) then .row (.tuple [g, .tuple r]) else .bad ((linesF x).length + 1) := by
          unfold readF
          rw [hnone, eg]
        have hsm : sm (.tuple [g, .tuple r]) = true := by
          have all : ∀ d ∈ g :: r, sm d = true := fun d hd => by
            rw [← eg] at hd
            obtain ⟨n, _, rfl⟩ := List.mem_map.mp hd
            exact part_sm _ n
          have rl : r.length ≤ 1000 := by rw [eg, List.length_cons] at pl; omega
          simp [sm, smA, all g (.head _), rl, smA_all fun d hd => all d (.tail _ hd)]
        have cut : FD.cutD (g :: r) (some 1) none = r := cut_post (g :: r) (i := 1) (by simp)
        dsimp only
        rw [eg]
        refine en_seq (en_of ?_)
        fail "w"
        refine rd_ixL (d := g) (L2.atI_nat (j := 0) rfl) ?_
        fail "w"
        rw [cut]
        fail "w"
        refine ⟨(show (2 : Nat) ≤ sizeLine by rw [sizeLine_eq]; decide), ?_⟩
        fail "w"
        dsimp only
        refine en_seq (en_if ?_)
        fail "w"
        refine ⟨⟨_, rfl, hsm⟩, ?_⟩
        have fr : fRow [.tuple [g, .tuple r]] = .bool (rowD (.tuple [g, .tuple r])) := rfl
        rw [fr]
        fail "w"
        · rename_i hrow
          refine en_raise ?_
          fail "w"
          refine rc_lenL (ds := (linesF x).map strD) ?_
          fail "w"
          refine ⟨small_log (by rw [List.length_map]; omega), x, rfl, ?_⟩
          rw [rF, if_neg (by simpa using hrow), List.length_map]
        · rename_i hrow
          refine en_of (es_next ?_)
          dsimp only
          refine en_of ?_
          fail "w"
          rw [rF, if_pos (by simpa using hrow)]
      · obtain ⟨ps, k, ep, hk, rfl⟩ := pm
        cases ep
        exact ⟨x, rfl, by unfold readF; rw [hk]⟩
end


abbrev sWhole : Stmt := tp 39
theorem scsWhole : FnScope ["thing"] ["thing"] (defScope sWhole) := ⟨rfl, rfl, rfl, by decide +kernel, rfl, by decide +kernel, by decide +kernel⟩
abbrev sFrom : Stmt := tp 41
theorem scsFrom : FnScope ["thing", "low"] ["thing", "low"] (defScope sFrom) := ⟨rfl, rfl, rfl, by decide +kernel, rfl, by decide +kernel, by decide +kernel⟩
abbrev sLetL : Stmt := tp 42
theorem scsLetL : FnScope ["thing"] ["thing"] (defScope sLetL) := ⟨rfl, rfl, rfl, by decide +kernel, rfl, by decide +kernel, by decide +kernel⟩
def fWhole : List PyData → PyData
  | [d] => .bool (isInt d)
  | _ => .none
section
variable {P : Program} {w : World} {K : PySem.W.Frag} {mg : Str → Option Value} {base : Heap} {f : Addr} {fd : FuncData}
theorem ok_whole (F : L2.Fun K "_law_whole" "_law_whole" sWhole f fd) (bi : Bi mg) : FnG P w K mg base 1 f fd ["thing"] (spF 1 (fun ds => ∃ d, ds = [d]) fWhole) := by
  refine fnD F scsWhole _ _ fun cdv A outer s H hg hr => ?_
  refine' ⟨_, ?h1, ?h2⟩
  case h1 =>
    have km : KMark K := ⟨⟩
    have nd : (["thing"] : List Str).Nodup := by decide +kernel
    have : (["thing"] : List Str)[0]? = some ("thing" : Str) := rfl
    fail "fTop"
  case h2 =>
    rintro ds hl ⟨d, rfl⟩
    show EvS K _ [some (.dat d)] _
    cases d
    all_goals (fail "w")
    all_goals rfl
theorem ok_from (F : L2.Fun K "_law_is_from" "_law_is_from" sFrom f fd) (bi : Bi mg) (c1 : Cal P w K mg base 1 "_law_whole" ["thing"] (spF 1 (fun ds => ∃ d, ds = [d]) fWhole)) :
    FnG P w K mg base 2 f fd ["thing", "low"] (spF 2 preN fNum) := by
  refine fnD F scsFrom _ _ fun cdv A outer s H hg hr => ?_
  refine' ⟨_, ?h1, ?h2⟩
  case h1 =>
    have km : KMark K := ⟨⟩
    have nd : (["thing", "low"] : List Str).Nodup := by decide +kernel
    have : (["thing", "low"] : List Str)[0]? = some ("thing" : Str) := rfl
    have : (["thing", "low"] : List Str)[1]? = some ("low" : Str) := rfl
    fail "fTop"
  case h2 =>
    rintro ds hl ⟨d, j, rfl⟩
    show EvS K _ [some (.dat d), some (.dat (.int j))] _
    fail "w"
    refine ⟨⟨_, rfl⟩, isInt d, rfl, fun h => ?_, fun h => ?_⟩
    · cases d with
      | int i => fail "w"; rfl
      | _ => cases h
    · cases d with
      | int i => cases h
      | _ => rfl
theorem ok_letL (F : L2.Fun K "_law_is_letter" "_law_is_letter" sLetL f fd) (bi : Bi mg) : FnG P w K mg base 1 f fd ["thing"] (spF 1 preD fLet) := by
  refine fnD F scsLetL _ _ fun cdv A outer s H hg hr => ?_
  refine' ⟨_, ?h1, ?h2⟩
  case h1 =>
    have km : KMark K := ⟨⟩
    have nd : (["thing"] : List Str).Nodup := by decide +kernel
    have : (["thing"] : List Str)[0]? = some ("thing" : Str) := rfl
    fail "fTop"
  case h2 =>
    rintro ds hl ⟨d, rfl, hd⟩
    show EvS K _ [some (.dat d)] _
    cases d
    case str x =>
      fail "w"
      refine rc_lenS (sm_str hd) ?_
      fail "w"
      · rename_i h
        obtain ⟨c, rfl⟩ := str_one x (len_one h)
        show PyData.bool (!_) = PyData.bool (decide (97 ≤ c ∧ c ≤ 122))
        rw [← let_in]
      · rename_i h
        show PyData.bool false = PyData.bool (isLet (.str x))
        rw [isLet_len (len_not h)]
    all_goals (fail "w")
    all_goals rfl
end
abbrev sRowL : Stmt := tp 43
theorem scsRowL : FnScope ["thing", "event", "i"] ["thing"] (defScope sRowL) := ⟨rfl, rfl, rfl, by decide +kernel, rfl, by decide +kernel, by decide +kernel⟩
section
variable {P : Program} {w : World} {K : PySem.W.Frag} {mg : Str → Option Value} {base : Heap} {f : Addr} {fd : FuncData}
def gt2 (ts : List Int) : PyData → Bool
  | .int k => decide (ts.getD k.toNat 0 < ts.getD (k - 1).toNat 0)
  | _ => false
theorem nondec_gt2 (ts : List Int) : (nums 1 ((ts.length : Int) - 1).toNat).all (fun d => !gt2 ts d) = nondec ts := by
  have e : ((ts.length : Int) - 1).toNat = ts.length - 1 := by omega
  unfold nums nondec
  rw [e, List.all_map]
  congr 1
  funext i
  show (!decide (ts.getD (1 + (i : Int)).toNat 0 < ts.getD (1 + (i : Int) - 1).toNat 0)) = decide _
  have e1 : (1 + (i : Int)).toNat = i + 1 := by omega
  have e2 : (1 + (i : Int) - 1).toNat = i := by omega
  rw [e1, e2]
  by_cases q : ts.getD i 0 ≤ ts.getD (i + 1) 0
  · rw [decide_eq_true q, decide_eq_false (by omega)]; rfl
  · rw [decide_eq_false q, decide_eq_true (by omega)]; rfl
theorem eqv_nil (l : List PyData) : PyData.eqv (.list l) (.list []) = l.isEmpty := by cases l <;> rfl
theorem filter_nil (p : PyData → Bool) (l : List PyData) : (l.filter p).isEmpty = l.all (fun d => !p d) := by
  induction l with
  | nil => rfl
  | cons d l ih =>
    rw [List.filter_cons, List.all_cons]
    cases h : p d
    · rw [if_neg Bool.false_ne_true, ih]; rfl
    · rw [if_pos rfl]; rfl
/-- a list of small flat things may be compared -/
def flatD : PyData → Bool
  | .none => true
  | .bool _ => true
  | .int _ => true
  | _ => false
theorem flat_all : ∀ {l : List PyData}, l.all flatD = true → noDictAll l = true ∧ PyData.canLayAll0 l = true ∧ PyData.depthAll l = 0
  | [], _ => ⟨rfl, rfl, rfl⟩
  | d :: l, h => by
    rw [List.all_cons, Bool.and_eq_true] at h
    obtain ⟨a, b, c⟩ := flat_all h.2
    have hd : noDict d = true ∧ PyData.canLay0 d = true ∧ PyData.depth d = 0 := by
      cases d with
      | none => exact ⟨rfl, rfl, rfl⟩
      | bool _ => exact ⟨rfl, rfl, rfl⟩
      | int _ => exact ⟨rfl, rfl, rfl⟩
      | _ => exact absurd h.1 (by simp [flatD])
    refine ⟨?_, ?_, ?_⟩
    · show (noDict d && noDictAll l) = true
      rw [hd.1, a]; rfl
    · show (PyData.canLay0 d && PyData.canLayAll0 l) = true
      rw [hd.2.1, b]; rfl
    · show max (PyData.depth d) (PyData.depthAll l) = 0
      rw [hd.2.2, c]; rfl
theorem eqOk_flat {l : List PyData} (h : l.all flatD = true) : eqOk (.list l) = true := by
  obtain ⟨a, b, c⟩ := flat_all h
  show (noDictAll l && (PyData.canLayAll0 l && decide (PyData.depthAll l + 1 ≤ 64))) = true
  rw [a, b, c]; rfl
theorem nums_flat (p : PyData → Bool) (lo : Int) (n : Nat) : ((nums lo n).filter p).all flatD = true := List.all_eq_true.mpr fun d hd => by
  obtain ⟨i, hi⟩ := List.getElem?_of_mem (List.mem_filter.mp hd).1
  obtain ⟨_, rfl⟩ := nums_get hi
  rfl
theorem ok_rowL (F : L2.Fun K "_law_is_row" "_law_is_row" sRowL f fd) (bi : Bi mg) (c1 : Cal P w K mg base 2 "_law_is_from" ["thing", "low"] (spF 2 preN fNum)) (c2 : Cal P w K mg base 1 "_law_is_letter" ["thing"] (spF 1 preD fLet)) :
    FnG P w K mg base 3 f fd ["thing"] (spF 1 preD fRow) := by
  refine fnD F scsRowL _ _ fun cdv A outer s H hg hr => ?_
  refine' ⟨_, ?h1, ?h2⟩
  case h1 =>
    have km : KMark K := ⟨⟩
    have nd : (["thing", "event", "i"] : List Str).Nodup := by decide +kernel
    have : (["thing", "event", "i"] : List Str)[0]? = some ("thing" : Str) := rfl
    have : (["thing", "event", "i"] : List Str)[1]? = some ("event" : Str) := rfl
    have : (["thing", "event", "i"] : List Str)[2]? = some ("i" : Str) := rfl
    fail "fTop"
  case h2 =>
    rintro ds hl ⟨d, rfl, hd⟩
    show EvS K _ [some (.dat d), none, none] _
    by_cases hT : isTup 2 d = true
    · obtain ⟨g, e0, rfl⟩ := isTup2 hT
      obtain ⟨sg, se⟩ := sm_two hd
      fail "w"
      refine ⟨⟨_, _, rfl⟩, isNum 1 g, rfl, ?_⟩
      cases hG : isNum 1 g
      · fail "w"
        show PyData.bool false = PyData.bool (rowD (.tuple [g, e0]))
        cases e0 with
        | tuple es => show PyData.bool false = PyData.bool (isNum 1 g && _); rw [hG]; rfl
        | _ => rfl
      · cases e0 with
        | tuple es =>
          obtain ⟨sl, sa⟩ := sm_tup se
          fail "w"
          have hfalse : ∀ d, d ∈ es → isEv d = false → PyData.bool false = fRow [.tuple [g, .tuple es]] := fun d hd h => by
            show _ = PyData.bool (isNum 1 g && (es.all isEv && nondec (timesOf es)))
            have : es.all isEv = false := by
              cases q : es.all isEv
              · rfl
              · rw [List.all_eq_true.mp q d hd] at h; cases h
            rw [this, Bool.false_and, Bool.and_false]
          refine es_for (ei_tup (ev_op (ev_var rfl (ev_int (rd_ixT (d := .tuple es) rfl ⟨_, rfl, ?_⟩)))))
          refine ⟨fun m e => ∃ a, e = [some (.dat (.tuple [g, .tuple es])), a, none] ∧ m ≤ es.length ∧ (es.take m).all isEv = true, ⟨none, rfl, Nat.zero_le _, rfl⟩, ?_, ?_⟩
          · rintro m d e hd ⟨a, rfl, hm, hp⟩
            have lt : m < es.length := (List.getElem?_eq_some_iff.mp hd).1
            have mem := List.mem_of_getElem? hd
            have sd := smA_mem sa mem
            by_cases hE : isTup 2 d = true
            · obtain ⟨x, y, rfl⟩ := isTup2 hE
              obtain ⟨sx, sy⟩ := sm_two sd
              fail "w"
              refine ⟨⟨_, rfl, sx⟩, isLet x, rfl, ?_⟩
              cases hA : isLet x
              · fail "w"
                exact hfalse _ mem (by show (isLet x && _) = false; rw [hA]; rfl)
              · fail "w"
                refine ⟨⟨_, _, rfl⟩, isNum 0 y, rfl, ?_⟩
                cases hB : isNum 0 y
                · fail "w"
                  exact hfalse _ mem (by show (isLet x && isNum 0 y) = false; rw [hA, hB]; rfl)
                · fail "w"
                  refine ⟨lt, ?_⟩
                  rw [List.take_add_one, hd, List.all_append, hp]
                  show (true && ((isLet x && isNum 0 y) && true)) = true
                  rw [hA, hB]; rfl
            · have hE' : isTup 2 d = false := by simpa using hE
              have hN := hfalse d mem (isEv_not hE')
              cases d with
              | tuple zs =>
                fail "w"
                all_goals (rename_i hc; first | exact hN | (exfalso; have hc' : (!isTup 2 (.tuple zs)) = false := hc; rw [hE'] at hc'; cases hc'))
              | _ => fail "w"; exact hN
          · rintro e ⟨a, rfl, _, hp⟩
            rw [List.take_length] at hp
            fail "v1"
            fail "v1"
            refine ev_filter (gt2 (timesOf es)) (ei_rng2 ?_)
            fail "w"
            refine ⟨_, _, rfl, by omega, ?_, (by show 2 < 3; decide), ?_, ?_⟩
            · rw [nums_length]; omega
            · intro d hd
              obtain ⟨i, hi⟩ := List.getElem?_of_mem hd
              obtain ⟨hi, rfl⟩ := nums_get hi
              obtain ⟨b, hb, _, _⟩ := ev_at hp (show i < es.length by omega)
              obtain ⟨b2, hb2, _, _⟩ := ev_at hp (show i + 1 < es.length by omega)
              fail "w"
              refine rd_ixT (d := .tuple [b, .int ((timesOf es).getD i 0)]) ?_ ?_
              · rw [show (1 : Int) + (i : Int) - 1 = ((i : Nat) : Int) by omega]; exact atI_nat hb
              fail "w"
              refine rd_ixT (d := .tuple [b2, .int ((timesOf es).getD (i + 1) 0)]) ?_ ?_
              · rw [show (1 : Int) + (i : Int) = ((i + 1 : Nat) : Int) by omega]; exact atI_nat hb2
              fail "w"
              show decide _ = decide _
              rw [show ((1 : Int) + (i : Int)).toNat = i + 1 by omega, show ((1 : Int) + (i : Int) - 1).toNat = i by omega]
            · fail "v1"
              fail "v1"
              refine ⟨by decide, ?_⟩
              refine rd_eqA (eqOk_flat (nums_flat _ _ _)) (by decide +kernel) ?_
              show PyData.bool _ = PyData.bool (isNum 1 g && (es.all isEv && nondec (timesOf es)))
              have e := nondec_gt2 (timesOf es)
              rw [timesOf_len] at e
              rw [eqv_nil, filter_nil, e, hG, hp]; rfl
        | _ => fail "w"; rfl
    · have hT' : isTup 2 d = false := by simpa using hT
      cases d with
      | tuple ds =>
        fail "w"
        all_goals (rename_i hc; first | (show PyData.bool false = PyData.bool (rowD (.tuple ds)); rw [rowD_not hT']) | (exfalso; have hc' : (!isTup 2 (.tuple ds)) = false := hc; rw [hT'] at hc'; cases hc'))
      | _ => fail "w"; rfl
end


abbrev eWord : Stmt := tp 44
theorem sceWord : FnScope ["error", "found", "words", "told", "word", "truth"] ["error"] (defScope eWord) := ⟨rfl, rfl, rfl, by decide +kernel, rfl, by decide +kernel, by decide +kernel⟩
/-! ### the word of an error -/
/-- the classes of the program, by their names -/
structure ErrsT (K : PySem.W.Frag) (mg : Str → Option Value) (A : Str → Addr) : Prop where
  g : ∀ nm ∈ (["NoRow", "NoMachine", "NoNumber", "NoLetter", "NoLetters", "NoBound", "NoLook", "NoCount", "NoMost", "NoMachines", "NoTold", "NoGrain", "NoWait", "NoText", "SinceError"] : List Str), mg nm = some (.ref (A nm))
  ve : mg "ValueError" = none
  zp : mg "zip" = none
  c : ExcC K (A "NoText")
  k : ∀ nm2 ∈ (["NoRow", "NoMachine", "NoNumber", "NoLetter", "NoLetters", "NoBound", "NoLook", "NoCount", "NoMost", "NoMachines", "NoTold", "NoGrain", "NoWait", "NoText", "SinceError"] : List Str), PySem.W.kitOne K (.ref (A "NoText")) (.ref (A nm2)) = some (decide (nm2 = "NoText" ∨ nm2 = "SinceError"))
  kv : PySem.W.kitOne K (.ref (A "NoText")) (.type "ValueError") = some true
def truB : PyData → PyData → Bool
  | _, .bool c => c
  | _, _ => false
def foundL (b : Str → Bool) (bv : Bool) : List PyData := [.bool (b "NoRow"), .bool (b "NoMachine"), .bool (b "NoNumber"), .bool (b "NoLetter"), .bool (b "NoLetters"), .bool (b "NoBound"), .bool (b "NoLook"), .bool (b "NoCount"), .bool (b "NoMost"), .bool (b "NoMachines"), .bool (b "NoTold"), .bool (b "NoGrain"), .bool (b "NoWait"), .bool (b "NoText"), .bool bv, .bool (b "SinceError")]
def wordsL : List PyData := [.str "row", .str "machine", .str "number", .str "letter", .str "letters", .str "bound", .str "look", .str "count", .str "most", .str "machines", .str "told", .str "grain", .str "wait", .str "text", .str "value", .str "error"]
def toldL (b : Str → Bool) (bv : Bool) : List PyData := zipD truB (fun w _ => w) wordsL (foundL b bv)
theorem es_freeze {K : PySem.W.Frag} {env : En} {O : Outs} {t : TS} {i : Nat} {p : Addr} {ds : List PyData} (h : env[i]? = some (some (.own p ds))) (k : EvS K t (env.set i (some (.dat (.list ds)))) O) : EvS K t env O := fun B σ G H D I a b c d f => by
  obtain ⟨_, _, z⟩ := ev_own (P := fun e _ => e = env.set i (some (.dat (.list ds)))) h rfl B σ G H (fun _ H' => t D σ H') I fun v G' H' e dd hp x' I' _ => by
    subst hp
    exact k B σ G' H' D I' (fun σ2 G2 H2 e2 p2 x2 I2 => a σ2 G2 H2 e2 p2 (x'.trans x2) I2) (fun v G2 H2 σ2 e2 d2 p2 x2 I2 r2 => b v G2 H2 σ2 e2 d2 p2 (x'.trans x2) I2 r2)
      (fun σ2 G2 H2 e2 p2 x2 I2 => c σ2 G2 H2 e2 p2 (x'.trans x2) I2) (fun σ2 G2 H2 e2 p2 x2 I2 => d σ2 G2 H2 e2 p2 (x'.trans x2) I2) (fun F q σ2 G2 H2 e2 p2 x2 => f F q σ2 G2 H2 e2 p2 (x'.trans x2))
  exact z
theorem eqv_nilL (xs : List PyData) : PyData.eqv (.list xs) (.list []) = xs.isEmpty := by
  cases xs <;> simp [PyData.eqv, PyData.eqvAll]
section
variable {P : Program} {w : World} {K : PySem.W.Frag} {mg : Str → Option Value} {base : Heap} {f : Addr} {fd : FuncData}
theorem ok_word {A : Str → Addr} (F : L2.Fun K "_law_word_of" "_law_word_of" eWord f fd) (bi : Bi mg) (es : ErrsT K mg A) : FnG P w K mg base 1 f fd ["error"] (spWN (A "NoText") fun _ d => d = .str "text") := by
  have g1 := es.g "NoRow" (by decide)
  have g2 := es.g "NoMachine" (by decide)
  have g3 := es.g "NoNumber" (by decide)
  have g4 := es.g "NoLetter" (by decide)
  have g5 := es.g "NoLetters" (by decide)
  have g6 := es.g "NoBound" (by decide)
  have g7 := es.g "NoLook" (by decide)
  have g8 := es.g "NoCount" (by decide)
  have g9 := es.g "NoMost" (by decide)
  have g10 := es.g "NoMachines" (by decide)
  have g11 := es.g "NoTold" (by decide)
  have g12 := es.g "NoGrain" (by decide)
  have g13 := es.g "NoWait" (by decide)
  have g14 := es.g "NoText" (by decide)
  have g15 := es.g "SinceError" (by decide)
  have gv := es.ve
  have gz := es.zp
  refine fnWN F sceWord _ fun cdv A' outer s H hg hr => ?_
  refine' ⟨_, ?h1, ?h2⟩
  case h1 =>
    have km : KMark K := ⟨⟩
    have nd : (["error", "found", "words", "told", "word", "truth"] : List Str).Nodup := by decide +kernel
    have : (["error", "found", "words", "told", "word", "truth"] : List Str)[0]? = some ("error" : Str) := rfl
    have : (["error", "found", "words", "told", "word", "truth"] : List Str)[1]? = some ("found" : Str) := rfl
    have : (["error", "found", "words", "told", "word", "truth"] : List Str)[2]? = some ("words" : Str) := rfl
    have : (["error", "found", "words", "told", "word", "truth"] : List Str)[3]? = some ("told" : Str) := rfl
    have : (["error", "found", "words", "told", "word", "truth"] : List Str)[4]? = some ("word" : Str) := rfl
    have : (["error", "found", "words", "told", "word", "truth"] : List Str)[5]? = some ("truth" : Str) := rfl
    fail "fTop"
  case h2 =>
    intro o
    have hC : ExcC K (A "NoText") := es.c
    obtain ⟨b, bv, res, his, hv, told, tok, hw⟩ : ∃ (b : Str → Bool) (bv : Bool) (res : Str), (∀ nm ∈ (["NoRow", "NoMachine", "NoNumber", "NoLetter", "NoLetters", "NoBound", "NoLook", "NoCount", "NoMost", "NoMachines", "NoTold", "NoGrain", "NoWait", "NoText", "SinceError"] : List Str), PySem.W.kitOne K (.ref (A "NoText")) (.ref (A nm)) = some (b nm)) ∧ PySem.W.kitOne K (.ref (A "NoText")) (.type "ValueError") = some bv ∧
        (toldL b bv = [.str res, .str "value", .str "error"]) ∧ eqOk (.list (toldL b bv)) = true ∧ PyData.str res = .str "text" :=
      ⟨fun nm2 => decide (nm2 = "NoText" ∨ nm2 = "SinceError"), true, "text", es.k, es.kv, by kernel_rfl, by decide +kernel, rfl⟩
    show EvS K _ [some (slN' (A "NoText") o), none, none, none, none, none] _
    refine es_seq (es_asg (ev_lst (ea_cons (ev_isCN rfl hC (.own _) (his "NoRow" (by decide)) (ea_cons (ev_isCN rfl hC (.own _) (his "NoMachine" (by decide)) (ea_cons (ev_isCN rfl hC (.own _) (his "NoNumber" (by decide)) (ea_nil ⟨by show 3 ≤ sizeLine; decide, eg_name ?_⟩)))))))))
    refine es_seq (es_asg (ev_op (ev_var rfl (ev_lst (ea_cons (ev_isCN rfl hC (.own _) (his "NoLetter" (by decide)) (ea_cons (ev_isCN rfl hC (.own _) (his "NoLetters" (by decide)) (ea_cons (ev_isCN rfl hC (.own _) (his "NoBound" (by decide)) (ea_nil ⟨by show 3 ≤ sizeLine; decide, rd_plusL (by show 6 ≤ sizeLine; decide) (eg_name ?_)⟩)))))))))))
    refine es_seq (es_asg (ev_op (ev_var rfl (ev_lst (ea_cons (ev_isCN rfl hC (.own _) (his "NoLook" (by decide)) (ea_cons (ev_isCN rfl hC (.own _) (his "NoCount" (by decide)) (ea_cons (ev_isCN rfl hC (.own _) (his "NoMost" (by decide)) (ea_nil ⟨by show 3 ≤ sizeLine; decide, rd_plusL (by show 9 ≤ sizeLine; decide) (eg_name ?_)⟩)))))))))))
    refine es_seq (es_asg (ev_op (ev_var rfl (ev_lst (ea_cons (ev_isCN rfl hC (.own _) (his "NoMachines" (by decide)) (ea_cons (ev_isCN rfl hC (.own _) (his "NoTold" (by decide)) (ea_cons (ev_isCN rfl hC (.own _) (his "NoGrain" (by decide)) (ea_nil ⟨by show 3 ≤ sizeLine; decide, rd_plusL (by show 12 ≤ sizeLine; decide) (eg_name ?_)⟩)))))))))))
    refine es_seq (FD.es_ownPlus (ev_var rfl (ev_lst (ea_cons (ev_isCN rfl hC (.own _) (his "NoWait" (by decide)) (ea_cons (ev_isCN rfl hC (.own _) (his "NoText" (by decide)) (ea_cons (ev_isCN rfl hC (.ty _) hv (ea_nil ⟨by show 3 ≤ sizeLine; decide, _, _, rfl, rfl, (by show 15 ≤ sizeLine; decide), fun p => ?_⟩))))))))))
    refine es_seq (es_append rfl (ev_isCN rfl hC (.own _) (his "SinceError" (by decide)) ⟨_, rfl, (by show 15 < sizeLine; decide), ?_⟩))
    refine es_freeze (i := 1) rfl ?_
    show EvS K _ [some (slN' (A "NoText") o), some (.dat (.list (foundL b bv))), none, none, none, none] _
    fail "z"
    show EvE K _ [some (slN' (A "NoText") o), some (.dat (.list (foundL b bv))), some (.dat (.list wordsL)), none, none, none] _
    refine FD.ev_zip (xs := wordsL) (ys := foundL b bv) truB (fun w _ => w) rfl (ea_cons (ev_var rfl (ea_cons (ev_var rfl (ea_nil ⟨rfl, rfl⟩))))) ?_ rfl (fun a b => rfl) (by show 16 ≤ 100000; decide) ?_ ?_
    · intro k s' e
      match k, e with
      | 0, _ => decide
      | 1, _ => decide
      | 2, _ => decide
      | 3, e => cases e
      | 4, e => cases e
      | 5, e => cases e
      | n + 6, e => simp at e
    · intro k x y hx hy
      obtain ⟨c, rfl⟩ : ∃ c, y = .bool c := by
        have hm := List.mem_of_getElem? hy
        unfold foundL at hm
        simp only [List.mem_cons, List.not_mem_nil, or_false] at hm
        rcases hm with rfl | rfl | rfl | rfl | rfl | rfl | rfl | rfl | rfl | rfl | rfl | rfl | rfl | rfl | rfl | rfl <;> exact ⟨_, rfl⟩
      exact ev_tB (ev_var rfl ⟨c, rfl, rfl, rfl, fun _ => ev_var rfl ⟨rfl, rfl⟩⟩)
    · refine eg_name ?_
      show EvS K _ [some (slN' (A "NoText") o), some (.dat (.list (foundL b bv))), some (.dat (.list wordsL)), some (.dat (.list (toldL b bv))), none, none] _
      generalize toldL b bv = T at told tok
      subst told
      · have two : (2 : Nat) ≤ sizeLine := by decide
        refine es_seq (es_if (ev_test (ev_op (ev_var rfl (ev_lst (ea_nil ⟨Nat.zero_le _, rd_eqA tok rfl ⟨_, rfl, (fun h => by cases h), fun _ => es_next ?_⟩⟩))))))
        refine es_ret (ev_op (ev_lst (ea_cons (ev_op (ev_var rfl (ev_int (rd_ixL (d := .str res) rfl (ea_cons (ev_str (ea_nil ⟨two, ?_⟩))))))))))
        refine ev_cb (ea_cons (ev_op (ev_sl (ev_var rfl (eo_some (ev_int ⟨1, rfl, eo_none (rs_list (ev_lst (ea_cons (ev_str (ea_cons (ev_str (ea_nil ⟨two, ?_⟩)))))))⟩))))))
        have ec : FD.cutD [PyData.str res, PyData.str "value", PyData.str "error"] (some 1) none = [PyData.str "value", PyData.str "error"] := rfl
        rw [ec]
        refine rd_neA (by decide +kernel) (by decide +kernel) (ea_nil (rc_intB ?_))
        exact rd_ixL (d := .str res) rfl hw
end


abbrev lTxt : Stmt := tp 45
theorem sclTxt : FnScope ["row", "a", "time"] ["row"] (defScope lTxt) := ⟨rfl, rfl, rfl, by decide +kernel, rfl, by decide +kernel, by decide +kernel⟩
abbrev lNum : Stmt := tp 46
theorem sclNum : FnScope ["word", "sign"] ["word"] (defScope lNum) := ⟨rfl, rfl, rfl, by decide +kernel, rfl, by decide +kernel, by decide +kernel⟩
abbrev lDue : Stmt := tp 47
theorem sclDue : FnScope ["text", "lines", "events", "grain", "k", "words", "row"] ["text"] (defScope lDue) := ⟨rfl, rfl, rfl, by decide +kernel, rfl, by decide +kernel, by decide +kernel⟩
/-! ### the law's own reading -/
theorem emp_app (a : Str) : Str.empty ++ a = a := TL.ext_tl (by rw [TL.tl_append]; rfl)
def fDue : List PyData → PyData
  | [.str x] => match readF x with
    | .row d => d
    | .bad n => .int n
  | _ => .none
/-- a sign that is no figure -/
def noDig : PyData → Bool
  | .str x => match x.cps.toList with
    | [c] => !dig c
    | _ => false
  | _ => false
def preSL : List PyData → Prop := fun ds => ∃ w : Str, ds = [.str w] ∧ w.length ≤ 1000 ∧ ∀ c ∈ w.cps.toList, c < 200
theorem inS_dig (c : Nat) : FD.inS ⟨#[c]⟩ "0123456789" = dig c := by
  show (!(Builtin.Str.occurrences _ _ 0 _ 1).isEmpty) = _
  rw [StrLaws.found_one]
  have e : (Str.ofString "0123456789").cps.toList = [48, 49, 50, 51, 52, 53, 54, 55, 56, 57] := by decide +kernel
  show decide (c ∈ (Str.ofString "0123456789").cps.toList) = _
  rw [e]
  unfold dig
  congr 1
  simp only [List.mem_cons, List.not_mem_nil, or_false, eq_iff_iff]
  omega
theorem noDig_all (x : Str) : ((FD.signs x).all fun d => !noDig d) = x.cps.toList.all dig := by
  unfold FD.signs
  rw [List.all_map]
  congr 1
  funext c
  show (!(!dig c)) = dig c
  rw [Bool.not_not]
theorem numP_of {x : Str} (hall : x.cps.toList.all dig = true) (l1 : 1 ≤ x.length) (l2 : x.length ≤ 30) {c : Nat} {r : List Nat} (ex : x.cps.toList = c :: r) :
    numP x = if decide (c = 48) && !decide (x = "0") then .none else .int (NumText.digitsVal x.cps.toList) := by
  unfold numP numOf
  rw [hall, decide_eq_true l1, decide_eq_true l2, ex]
  show (match (if true = true then _ else none : Option Nat) with | some n => PyData.int n | none => .none) = _
  rw [if_pos rfl]
  have hh : decide (List.head? (c :: r) = some 48) = decide (c = 48) := by simp
  rw [hh]
  cases decide (c = 48) && !decide (x = "0") <;> rfl
theorem one_zero (c : Nat) : decide ((⟨#[c]⟩ : Str) = "0") = decide (c = 48) := by
  by_cases z : c = 48
  · subst z; decide +kernel
  · rw [decide_eq_false z, decide_eq_false]
    intro w
    have := congrArg (fun y : Str => y.cps.toList) w
    rw [show (("0" : Str)).cps.toList = [48] from e0] at this
    exact z (List.cons.inj this).1
def preXL : List PyData → Prop := fun ds => ∃ x : Str, ds = [.str x] ∧ textOk x ∧ ∀ c ∈ x.cps.toList, c < 200
theorem joinL_mem (s : Nat) (S : List Nat) : ∀ (parts : List (List Nat)) (p : List Nat) (c : Nat), p ∈ parts → c ∈ p → c ∈ TL.joinL (s :: S) parts
  | [], p, c, h, _ => by cases h
  | [q], p, c, h, hc => by
    rcases List.mem_cons.mp h with rfl | h
    · exact hc
    · cases h
  | q :: r :: t, p, c, h, hc => by
    have e : TL.joinL (s :: S) (q :: r :: t) = q ++ (s :: S ++ TL.joinL (s :: S) (r :: t)) := rfl
    rw [e]
    rcases List.mem_cons.mp h with rfl | h
    · exact List.mem_append_left _ hc
    · exact List.mem_append_right _ (List.mem_append_right _ (joinL_mem s S (r :: t) p c h hc))
theorem split_chars (x : Str) {y : Str} {s : Nat} {S : List Nat} (hy : TL.tl y = s :: S) : ∀ l ∈ Txt.split x y, ∀ c ∈ l.cps.toList, c ∈ x.cps.toList := fun l hl c hc => by
  have e := split_joinL x y
  rw [hy] at e
  have := joinL_mem s S _ (TL.tl l) c (List.mem_map_of_mem hl) hc
  rw [e] at this
  exact this
theorem lines_chars {x : Str} (h : ∀ c ∈ x.cps.toList, c < 200) : ∀ ws ∈ linesF x, ∀ w ∈ ws, ∀ c ∈ w.cps.toList, c < 200 := fun ws hw w hm c hc => by
  obtain ⟨l, hl, rfl⟩ := List.mem_map.mp hw
  exact h c (split_chars x nl_tl l hl c (split_chars l sp_tl w hm c hc))
theorem count_two (a w g : Str) : countF [a, w] g = if decide (a = g) then numP w else .none := by
  unfold countF numsF
  have e1 : decide (List.head? [a, w] = some g) = decide (a = g) := by simp
  rw [e1]
  cases h : decide (a = g) with
  | false => rfl
  | true =>
    rcases numP_cases w with e | ⟨n, e⟩
    · show (match (if (false || ([numP w].any fun z => PyData.eqv z .none)) = true then PyData.none else .tuple [numP w]) with | .tuple [d] => d | _ => .none) = _
      rw [e]; rfl
    · show (match (if (false || ([numP w].any fun z => PyData.eqv z .none)) = true then PyData.none else .tuple [numP w]) with | .tuple [d] => d | _ => .none) = _
      rw [e]; rfl
theorem count_not {ws : List Str} (h : ws.length ≠ 2) (g : Str) : countF ws g = .none := by
  unfold countF numsF
  match ws, h with
  | [], _ => rfl
  | [a], _ =>
    split
    · rename_i q
      split at q
      · cases q
      · cases q
    · rfl
  | a :: b :: c :: r, _ =>
    split
    · rename_i q
      split at q
      · cases q
      · cases q
    · rfl
theorem event_not {ws : List Str} (h : ws.length ≠ 2) : eventF ws = .none := by
  match ws, h with
  | [], _ => rfl
  | [a], _ => rfl
  | a :: b :: c :: r, _ => rfl
theorem firstNone_at : ∀ {ds : List PyData} {m : Nat}, ((ds.take m).all fun d => !isNone d) = true → ds[m]? = some .none → firstNone ds = some m
  | [], m, _, h => by cases h
  | d :: r, 0, _, h => by
    obtain rfl := Option.some.inj h
    rfl
  | d :: r, m + 1, ha, h => by
    rw [List.take_succ_cons, List.all_cons, Bool.and_eq_true] at ha
    show (if isNone d = true then _ else _) = _
    rw [if_neg (by simpa using ha.1), firstNone_at ha.2 h]; rfl
theorem firstNone_no : ∀ {ds : List PyData}, (ds.all fun d => !isNone d) = true → firstNone ds = none
  | [], _ => rfl
  | d :: r, h => by
    rw [List.all_cons, Bool.and_eq_true] at h
    show (if isNone d = true then _ else _) = _
    rw [if_neg (by simpa using h.1), firstNone_no h.2]; rfl
/-- what the loop knows behind m lines -/
def DueAt (L : List (List Str)) (m : Nat) (g : PyData) (es : List PyData) : Prop :=
  (m = 0 ∧ g = .int 0 ∧ es = []) ∨ (0 < m ∧ (List.range m).map (partF L) = g :: es ∧ ((g :: es).all fun d => !isNone d) = true)
theorem DueAt.take {L : List (List Str)} {m : Nat} {g : PyData} {es : List PyData} (h : DueAt L m g es) (hm : m ≤ L.length) : (((partsF L).take m).all fun d => !isNone d) = true := by
  have e : (partsF L).take m = (List.range m).map (partF L) := by
    unfold partsF
    rw [← List.map_take, List.take_range, Nat.min_eq_left hm]
  rw [e]
  rcases h with ⟨rfl, _, _⟩ | ⟨_, h, a⟩
  · rfl
  · rw [h]; exact a
theorem part_at {L : List (List Str)} {m : Nat} (hm : m < L.length) : (partsF L)[m]? = some (partF L m) := by
  unfold partsF
  rw [List.getElem?_map, List.getElem?_range hm]; rfl
theorem DueAt.next {L : List (List Str)} {m : Nat} {g : PyData} {es : List PyData} (h : DueAt L m g es) (hp : isNone (partF L m) = false) : DueAt L (m + 1) (if m = 0 then partF L m else g) (if m = 0 then [] else es ++ [partF L m]) := by
  refine .inr ⟨Nat.succ_pos _, ?_, ?_⟩
  · rcases h with ⟨rfl, rfl, rfl⟩ | ⟨h0, h, a⟩
    · rfl
    · rw [if_neg (by omega), if_neg (by omega), List.range_succ, List.map_append, h]; rfl
  · rcases h with ⟨rfl, rfl, rfl⟩ | ⟨h0, h, a⟩
    · show (!isNone (partF L 0) && true) = true
      rw [hp]; rfl
    · rw [if_neg (by omega), if_neg (by omega), ← List.cons_append, List.all_append, a]
      show (true && (!isNone (partF L m) && true)) = true
      rw [hp]; rfl
theorem due_bad {x : Str} {m : Nat} {g : PyData} {es : List PyData} (h : DueAt (linesF x) m g es) (hm : m < (linesF x).length) (hp : partF (linesF x) m = .none) : fDue [.str x] = .int ((m : Int) + 1) := by
  have q := firstNone_at (h.take (Nat.le_of_lt hm)) (by rw [part_at hm, hp])
  show (match readF x with | .row d => d | .bad n => .int n) = _
  unfold readF
  rw [q]
section
variable {P : Program} {w : World} {K : PySem.W.Frag} {mg : Str → Option Value} {base : Heap} {f : Addr} {fd : FuncData}
theorem ok_ltext (F : L2.Fun K "_law_text" "_law_text" lTxt f fd) (bi : Bi mg) : FnG P w K mg base 1 f fd ["row"] (spF 1 preRT fText) := by
  refine fnD F sclTxt _ _ fun cdv A outer s H hg hr => ?_
  refine' ⟨_, ?h1, ?h2⟩
  case h1 =>
    have km : KMark K := ⟨⟩
    have nd : (["row", "a", "time"] : List Str).Nodup := by decide +kernel
    have : (["row", "a", "time"] : List Str)[0]? = some ("row" : Str) := rfl
    have : (["row", "a", "time"] : List Str)[1]? = some ("a" : Str) := rfl
    have : (["row", "a", "time"] : List Str)[2]? = some ("time" : Str) := rfl
    fail "fTop"
  case h2 =>
    rintro ds hl ⟨g, es, rfl, hd, hd2, hg1, hes, hn⟩
    show EvS K _ [some (.dat (.tuple [.int g, .tuple es])), none, none] _
    have hev : es.all isEv = true := by
      have h := hd2
      have h' : (isNum 1 (.int g) && (es.all isEv && nondec (timesOf es))) = true := h
      simp only [Bool.and_eq_true] at h'
      exact h'.2.1
    have hg0 : 0 ≤ g := by
      have h := hd2
      have h' : (isNum 1 (.int g) && (es.all isEv && nondec (timesOf es))) = true := h
      simp only [Bool.and_eq_true] at h'
      have := of_decide_eq_true h'.1
      omega
    have e6 : (Str.ofString "grain ").length = 6 := by decide +kernel
    have e1 : (Str.ofString " ").length = 1 := by decide +kernel
    have gl : (numS g).length ≤ 6 := numS_len hg0 hg1
    fail "w"
    refine rc_strI (Nat.lt_trans (small_log hg1) (by decide)) ?_
    refine rd_plusS (by rw [e6, sizeLine_eq]; show _ + (numS g).length ≤ _; omega) ?_
    fail "w"
    refine ⟨(show (1 : Nat) ≤ sizeLine by rw [sizeLine_eq]; decide), ?_⟩
    refine ev_mapT (xs := es) (fun d => .str (evTxt d)) (ei_tup (ev_op (ev_var rfl (ev_int (rd_ixT (d := .tuple es) rfl ⟨_, rfl, rfl, rfl⟩))))) ?_ rfl (fun a b => rfl) (by omega) ?_ ?_
    · intro k s hk hm
      rcases List.mem_cons.mp hm with rfl | hm
      · cases hk
      · rcases List.mem_cons.mp hm with rfl | hm
        · cases hk
        · cases hm
    · intro d hdm
      obtain ⟨a, t, rfl, ha, ht⟩ := isEv_shape (List.all_eq_true.mp hev d hdm)
      obtain ⟨z, c, rfl, hzl⟩ := let_str ha
      have zl : z.length = 1 := by rw [hzl.1]; rfl
      have tl6 : (numS t).length ≤ 6 := numS_len ht (hes _ _ hdm)
      refine ⟨_, _, rfl, ?_⟩
      fail "w"
      refine rd_plusS (by rw [e1, zl, sizeLine_eq]; decide) ?_
      fail "w"
      refine rc_strI (Nat.lt_trans (small_log (hes _ _ hdm)) (by decide)) ?_
      refine rd_plusS (by rw [len_app, e1, zl, sizeLine_eq]; show _ + (numS t).length ≤ _; omega) ⟨rfl, ?_⟩
      show PyData.str (z ++ sp1 ++ numS t) = PyData.str (Str.empty ++ z ++ sp1 ++ numS t)
      rw [emp_app]
    · refine rd_plusL (by rw [List.length_map, sizeLine_eq]; show (1 : Nat) + _ ≤ _; omega) ?_
      refine ⟨("grain " ++ numS g) :: es.map evTxt, ?_, ?_, ?_⟩
      · show PyData.list (_ :: es.map fun d => PyData.str (evTxt d)) = PyData.list (_ :: (es.map evTxt).map PyData.str)
        rw [List.map_map]; rfl
      · have h1 := StrLaws.sumLen_le (B := 20) (("grain " ++ numS g) :: es.map evTxt) (fun y hy => by
          rcases List.mem_cons.mp hy with rfl | hy
          · rw [len_app, e6]; omega
          · obtain ⟨d, hdm, rfl⟩ := List.mem_map.mp hy
            obtain ⟨a, t, rfl, ha, ht⟩ := isEv_shape (List.all_eq_true.mp hev d hdm)
            obtain ⟨z, c, rfl, hzl⟩ := let_str ha
            have zl : z.length = 1 := by rw [hzl.1]; rfl
            have tl6 : (numS t).length ≤ 6 := numS_len ht (hes _ _ hdm)
            show (Str.empty ++ z ++ sp1 ++ numS t).length ≤ 20
            rw [emp_app, len_app, len_app, zl]
            show 1 + 1 + _ ≤ _
            omega)
        have h2 : (Str.ofString "\n").length = 1 := by decide +kernel
        rw [h2]
        rw [List.length_cons, List.length_map] at h1 ⊢
        omega
      · show PyData.str _ = PyData.str (rowTxt g es)
        unfold rowTxt
        rw [emp_app]
theorem ok_lnum (F : L2.Fun K "_law_number_of" "_law_number_of" lNum f fd) (bi : Bi mg) : FnG P w K mg base 1 f fd ["word"] (spF 1 preSL fNumb) := by
  refine fnD F sclNum _ _ fun cdv A outer s H hg hr => ?_
  refine' ⟨_, ?h1, ?h2⟩
  case h1 =>
    have km : KMark K := ⟨⟩
    have nd : (["word", "sign"] : List Str).Nodup := by decide +kernel
    have : (["word", "sign"] : List Str)[0]? = some ("word" : Str) := rfl
    have : (["word", "sign"] : List Str)[1]? = some ("sign" : Str) := rfl
    fail "fTop"
  case h2 =>
    rintro ds hl ⟨x, rfl, hd, hch⟩
    show EvS K _ [some (.dat (.str x)), none] _
    have hx : x.length ≤ sizeLine := Nat.le_trans hd (by decide)
    have fN : fNumb [.str x] = numP x := rfl
    have numNone : (decide (1 ≤ x.length) && (decide (x.length ≤ 30) && x.cps.toList.all dig)) = false → numP x = .none := fun h => by
      unfold numP numOf
      rw [h]; rfl
    fail "w"
    refine rd_eqS ⟨_, rfl, fun h1 => ?_, fun h1 => ?_⟩
    · fail "w"
      refine ev_filter noDig (ei_str (ev_var rfl ⟨x, rfl, ?_, (show (1 : Nat) < 2 by decide), ?_, ?_⟩))
      · show (x.cps.toList.map _).length ≤ _
        rw [List.length_map, Array.length_toList]
        exact Nat.le_trans hd (by decide)
      · intro d hd'
        obtain ⟨c, hc, rfl⟩ := List.mem_map.mp hd'
        fail "w"
        exact congrArg (! ·) (inS_dig c)
      · have eo : eqOk (.list ((FD.signs x).filter noDig)) = true := fine_eqOk (n := 1) (fine_lst fun d hd => by
          obtain ⟨c, hc, rfl⟩ := List.mem_map.mp (List.mem_filter.mp hd).1
          exact fine_let (hch c hc) 0) (by decide)
        fail "w"
        refine ⟨Nat.zero_le _, ?_⟩
        refine rd_neA eo rfl ⟨_, rfl, fun h2 => ?_, fun h2 => ?_⟩
        · have hall : x.cps.toList.all dig = true := by
            rw [eqv_nil, filter_nil, noDig_all] at h2
            simpa using h2
          fail "w"
          refine rc_lenS hx ?_
          fail "w"
          · rename_i h3
            rw [fN, numNone]
            rw [show decide (x.length ≤ 30) = false from decide_eq_false (by have := of_decide_eq_true h3; omega)]
            rw [Bool.false_and, Bool.and_false]
          · rename_i h3
            have l2 : x.length ≤ 30 := by have := of_decide_eq_false h3; omega
            have ne : x ≠ "" := of_decide_eq_false h1
            obtain ⟨c, r, ex⟩ : ∃ c r, x.cps.toList = c :: r := by
              cases e : x.cps.toList with
              | nil => exact absurd (TL.ext_tl (show TL.tl x = TL.tl "" from e)) ne
              | cons c r => exact ⟨c, r, rfl⟩
            have l1 : 1 ≤ x.length := by rw [TL.len_tl, show TL.tl x = c :: r from ex, List.length_cons]; omega
            have hat : L2.atI x.cps.toList ((0 : Nat) : Int) = some c := L2.atI_nat (by rw [ex]; rfl)
            have hnum := numP_of hall l1 l2 ex
            have hint : PySem.intText? x = some ((NumText.digitsVal x.cps.toList : Nat) : Int) := PySem.intText_digits (fun d hd => by
              have := List.all_eq_true.mp hall d hd
              exact of_decide_eq_true this) (by rw [ex]; exact List.cons_ne_nil _ _) (by omega)
            have e48 := one_zero c
            fail "w"
            refine rd_ixS hx hat ?_
            fail "w"
            refine rd_eqS ⟨_, rfl, fun h3 => ?_, fun h3 => ?_⟩
            · fail "w"
              refine rd_neS ⟨_, rfl, fun h4 => ?_, fun h4 => ?_⟩
              · fail "w"
                rw [fN, hnum, ← e48, h3, h4]; rfl
              · fail "w"
                refine rc_intTS hint (by omega) ?_
                rw [fN, hnum, ← e48, h3, h4]; rfl
            · fail "w"
              refine rc_intTS hint (by omega) ?_
              rw [fN, hnum, ← e48, h3]; rfl
        · have hall : x.cps.toList.all dig = false := by
            rw [eqv_nil, filter_nil, noDig_all] at h2
            simpa using h2
          refine ⟨fun _ => ?_, fun h => by cases h⟩
          fail "w"
          rw [fN, numNone]
          rw [hall, Bool.and_false, Bool.and_false]
    · refine ⟨fun _ => ?_, fun h => by cases h⟩
      fail "w"
      have e : x = "" := of_decide_eq_true h1
      subst e
      rfl
theorem ok_due (F : L2.Fun K "_law_due" "_law_due" lDue f fd) (bi : Bi mg) (c1 : Cal P w K mg base 1 "_law_number_of" ["word"] (spF 1 preSL fNumb)) (c2 : Cal P w K mg base 1 "_law_is_letter" ["thing"] (spF 1 preD fLet))
    (c3 : Cal P w K mg base 3 "_law_is_row" ["thing"] (spF 1 preD fRow)) : FnG P w K mg base 4 f fd ["text"] (spF 1 preXL fDue) := by
  refine fnD F sclDue _ _ fun cdv A outer s H hg hr => ?_
  refine' ⟨_, ?h1, ?h2⟩
  case h1 =>
    have km : KMark K := ⟨⟩
    have nd : (["text", "lines", "events", "grain", "k", "words", "row"] : List Str).Nodup := by decide +kernel
    have : (["text", "lines", "events", "grain", "k", "words", "row"] : List Str)[0]? = some ("text" : Str) := rfl
    have : (["text", "lines", "events", "grain", "k", "words", "row"] : List Str)[1]? = some ("lines" : Str) := rfl
    have : (["text", "lines", "events", "grain", "k", "words", "row"] : List Str)[2]? = some ("events" : Str) := rfl
    have : (["text", "lines", "events", "grain", "k", "words", "row"] : List Str)[3]? = some ("grain" : Str) := rfl
    have : (["text", "lines", "events", "grain", "k", "words", "row"] : List Str)[4]? = some ("k" : Str) := rfl
    have : (["text", "lines", "events", "grain", "k", "words", "row"] : List Str)[5]? = some ("words" : Str) := rfl
    have : (["text", "lines", "events", "grain", "k", "words", "row"] : List Str)[6]? = some ("row" : Str) := rfl
    fail "fTop"
  case h2 =>
    rintro ds hl ⟨x, rfl, hx, hch⟩
    show EvS K _ [some (.dat (.str x)), none, none, none, none, none, none] _
    have hx1 : x.length ≤ 900 := hx
    have hL := lines_few hx
    have hok := lines_ok hx
    have sl : (Txt.split x nl).length = (linesF x).length := by unfold linesF; rw [List.length_map]
    fail "w"
    refine ⟨by rw [sizeLine_eq]; omega, ?_⟩
    fail "w"
    intro p
    fail "w"
    have envl : ∀ (k : Nat) (ws : List Str), (linesF x)[k]? = some ws → ∃ l, (Txt.split x (Str.ofString "\n"))[k]? = some l ∧ Txt.split l (Str.ofString " ") = ws ∧ l.length ≤ 900 := fun k ws h => by
      have h' : ((Txt.split x nl).map fun l => Txt.split l sp1)[k]? = some ws := h
      rw [List.getElem?_map] at h'
      obtain ⟨l, h1, h2⟩ := Option.map_eq_some_iff.mp h'
      exact ⟨l, h1, h2, Nat.le_trans (split_short x nl_tl trivial l (List.mem_of_getElem? h1)) hx1⟩
    refine es_for (ei_rng1 (ea_cons (ev_cb (ea_cons (ev_var rfl (ea_nil (rc_lenL (ds := (Txt.split x nl).map PyData.str) (ea_nil ⟨_, rfl, by rw [List.length_map]; omega, ?_⟩))))))))
    have en : ((((Txt.split x nl).map PyData.str).length : Nat) : Int).toNat = (linesF x).length := by rw [List.length_map, sl]; omega
    rw [en]
    refine ⟨fun m e => ∃ g es a4 a5, e = [some (.dat (.str x)), some (.dat (strD (Txt.split x (Str.ofString "\n")))), some (.own p es), some (.dat g), a4, a5, none] ∧ m ≤ (linesF x).length ∧ DueAt (linesF x) m g es, ⟨_, _, none, none, rfl, Nat.zero_le _, .inl ⟨rfl, rfl, rfl⟩⟩, ?_, ?_⟩
    · rintro m d e hd ⟨g, es, a4, a5, rfl, hm, hD⟩
      obtain ⟨lt, rfl⟩ := nums_get hd
      obtain ⟨ws, hws⟩ : ∃ ws, (linesF x)[m]? = some ws := ⟨_, List.getElem?_eq_getElem lt⟩
      obtain ⟨l, hl1, hl2, hl3⟩ := envl m ws hws
      have gd : (linesF x).getD m [] = ws := by rw [List.getD_eq_getElem?_getD, hws]; rfl
      have wok := hok ws (List.mem_of_getElem? hws)
      have wch := lines_chars hch ws (List.mem_of_getElem? hws)
      have z0 : (0 : Int) + (m : Nat) = ((m : Nat) : Int) := by omega
      rw [z0]
      have hat : L2.atI ((Txt.split x (Str.ofString "\n")).map PyData.str) ((m : Nat) : Int) = some (.str l) := L2.atI_nat (by rw [List.getElem?_map, hl1]; rfl)
      fail "w"
      refine rd_ixL hat ?_
      fail "w"
      refine ⟨by rw [sizeLine_eq]; omega, ?_⟩
      rw [hl2]
      have bad : partF (linesF x) m = .none → PyData.int ((m : Int) + 1) = fDue [.str x] := fun h => (due_bad hD lt h).symm
      have pf : partF (linesF x) m = if decide (0 < m) then eventF ws else countF ws "grain" := by unfold partF; rw [gd]
      have next : isNone (partF (linesF x) m) = false → DueAt (linesF x) (m + 1) (if m = 0 then partF (linesF x) m else g) (if m = 0 then [] else es ++ [partF (linesF x) m]) := fun h => hD.next h
      by_cases hlen : ws.length = 2
      · obtain ⟨a, w, rfl⟩ : ∃ a w, ws = [a, w] := by
          match ws, hlen with
          | [a, w], _ => exact ⟨a, w, rfl⟩
        have pw : preSL [.str w] := ⟨w, rfl, wok.2.2 w (by simp), wch w (by simp)⟩
        have sa : sm (.str a) = true := by have := wok.2.2 a (by simp); simpa [sm] using this
        have fw : fNumb [.str w] = numP w := rfl
        fail "w"
        refine ⟨pw, ?_⟩
        rw [fw]
        fail "w"
        · rename_i hc
          refine bad ?_
          rw [pf]
          have e0 : eventF [a, w] = .none := by
            show (if isLet (.str a) && !isNone (numP w) then _ else _) = _
            rw [hc, Bool.not_true, Bool.and_false]; rfl
          have e1 : countF [a, w] "grain" = .none := by
            rw [count_two]
            rcases numP_cases w with e | ⟨n, e⟩
            · rw [e]; split <;> rfl
            · rw [e] at hc; cases hc
          rw [e0, e1]; split <;> rfl
        · rename_i hc0 hc
          have m0 : m = 0 := by
            have : ((m : Int) == 0) = true := hc
            have := beq_iff_eq.mp this
            omega
          subst m0
          have pc : partF (linesF x) 0 = if decide (a = "grain") then numP w else .none := by rw [pf, ← count_two]; rfl
          refine rd_neS ⟨_, rfl, fun h4 => ?_, fun h4 => ?_⟩
          · fail "w"
            refine bad ?_
            rw [pc, if_neg (by simpa using h4)]
          · fail "w"
            refine ⟨pw, ?_⟩
            refine eg_name ?_
            have pt : partF (linesF x) 0 = numP w := by rw [pc, if_pos (by simpa using h4)]
            have nx := next (by rw [pt]; exact hc0)
            rw [if_pos rfl, if_pos rfl, pt] at nx
            have z : es = [] := by
              rcases hD with ⟨_, _, z⟩ | ⟨z, _, _⟩
              · exact z
              · omega
            subst z
            exact ⟨_, _, _, _, rfl, lt, nx⟩
        · rename_i hc0 hc
          have m0 : m ≠ 0 := fun z => by
            subst z
            cases hc
          have pe : partF (linesF x) m = if isLet (.str a) && !isNone (numP w) then .tuple [.str a, numP w] else .none := by
            rw [pf, decide_eq_true (by omega : 0 < m)]; rfl
          refine ⟨⟨_, rfl, sa⟩, isLet (.str a), rfl, fun h4 => ?_, fun h4 => ?_⟩
          · fail "w"
            refine bad ?_
            rw [pe, show isLet (.str a) = false from by simpa using h4]; rfl
          · have h5 : isLet (.str a) = true := by simpa using h4
            have pt : partF (linesF x) m = .tuple [.str a, numP w] := by rw [pe, h5, hc0]; rfl
            have nx := next (by rw [pt]; rfl)
            rw [if_neg m0, if_neg m0, pt] at nx
            have few : es.length < sizeLine := by
              rcases hD with ⟨z, _, _⟩ | ⟨_, h, _⟩
              · exact absurd z m0
              · have := congrArg List.length h
                rw [List.length_map, List.length_range, List.length_cons] at this
                rw [sizeLine_eq]; omega
            refine es_append rfl ?_
            fail "w"
            refine ⟨pw, ?_⟩
            rw [fw]
            fail "w"
            refine ⟨(show (2 : Nat) ≤ sizeLine by rw [sizeLine_eq]; decide), ?_⟩
            refine ⟨es, rfl, few, ?_⟩
            exact ⟨_, _, _, _, rfl, lt, nx⟩
      · have pn : partF (linesF x) m = .none := by rw [pf, event_not hlen, count_not hlen]; split <;> rfl
        have ne2 : (!(PyData.eqv (.int ((ws.map PyData.str).length : Nat)) (.int 2))) = true := by
          rw [List.length_map]
          simp only [PyData.eqv, Bool.not_eq_true']
          exact beq_eq_false_iff_ne.mpr (by omega)
        fail "w"
        · rename_i hc
          rw [ne2] at hc; cases hc
        · exact bad pn
    · rintro e ⟨g, es, a4, a5, rfl, _, hD⟩
      refine es_freeze (i := 2) rfl ?_
      rw [FD.nums_length] at hD
      fail "w"
      refine ⟨(show (2 : Nat) ≤ sizeLine by rw [sizeLine_eq]; decide), ?_⟩
      obtain ⟨epa, hall⟩ : partsF (linesF x) = g :: es ∧ ((g :: es).all fun d => !isNone d) = true := by
        rcases hD with ⟨h0, _, _⟩ | ⟨_, h, a⟩
        · exact absurd (List.length_eq_zero_iff.mp h0) (lines_ne x)
        · exact ⟨h, a⟩
      have pl : (g :: es).length = (linesF x).length := by rw [← epa]; unfold partsF; rw [List.length_map, List.length_range]
      have fd1 : fDue [.str x] = if rowD (.tuple [g, .tuple es]) then .tuple [g, .tuple es] else .int ((linesF x).length + 1) := by
        show (match readF x with | .row d => d | .bad n => .int n) = _
        unfold readF
        rw [epa, firstNone_no hall]
        by_cases h : rowD (.tuple [g, .tuple es]) = true
        · rw [if_pos h]
          show (match (if rowD (.tuple [g, .tuple es]) = true then Rd.row (.tuple [g, .tuple es]) else Rd.bad ((linesF x).length + 1)) with | .row d => d | .bad n => .int n) = _
          rw [if_pos h]
        · rw [if_neg h]
          show (match (if rowD (.tuple [g, .tuple es]) = true then Rd.row (.tuple [g, .tuple es]) else Rd.bad ((linesF x).length + 1)) with | .row d => d | .bad n => .int n) = _
          rw [if_neg h]
      have hsm : sm (.tuple [g, .tuple es]) = true := by
        have all : ∀ d ∈ g :: es, sm d = true := fun d hd => by
          rw [← epa] at hd
          obtain ⟨n, _, rfl⟩ := List.mem_map.mp hd
          exact part_sm _ n
        have rl : es.length ≤ 1000 := by rw [List.length_cons] at pl; omega
        simp [sm, smA, all g (.head _), rl, smA_all fun d hd => all d (.tail _ hd)]
      have fr : fRow [.tuple [g, .tuple es]] = .bool (rowD (.tuple [g, .tuple es])) := rfl
      fail "w"
      refine ⟨⟨_, rfl, hsm⟩, ?_⟩
      rw [fr]
      fail "w"
      · rename_i hc
        show PyData.int _ = fDue [.str x]
        rw [fd1, if_neg (by simpa using hc), List.length_map]
        show PyData.int (((Txt.split x nl).length : Nat) + 1) = _
        rw [sl]
      · rename_i hc
        show _ = fDue [.str x]
        rw [fd1, if_pos (by simpa using hc)]
end


section
variable {P : Program} {w : World} {K : PySem.W.Frag} {mg : Str → Option Value} {base : Heap} {f : Addr} {fd : FuncData}
theorem seq_cut {t u : TS} {e : En} {O : Outs} (M : En → Prop) (h1 : EvS K t e { O with nx := M }) (h2 : ∀ e1, M e1 → EvS K u e1 O) : EvS K (tSeq t u) e O := es_seq (h1.imp h2 (fun _ _ z => z) (fun _ z => z) (fun _ z => z) (fun _ _ z => z))
end
mutual
/-- numbers and signs in it are small -/
def rpB : PyData → Bool
  | .int i => decide (i.natAbs < 100000)
  | .str x => x.cps.toList.all fun c => decide (c < 200)
  | .list ds => rpA ds
  | .tuple ds => rpA ds
  | .dict _ => false
  | _ => true
def rpA : List PyData → Bool
  | [] => true
  | d :: ds => rpB d && rpA ds
end
theorem rpA_mk : ∀ {ds : List PyData}, (∀ d, d ∈ ds → rpB d = true) → rpA ds = true
  | [], _ => rfl
  | d :: ds, h => by
    show (rpB d && rpA ds) = true
    rw [h d List.mem_cons_self, rpA_mk fun e he => h e (List.mem_cons_of_mem _ he)]; rfl
mutual
theorem rp_sh : ∀ d : PyData, rpB d = true → PyData.showable d = true ∧ PyData.hasDict d = false
  | .none, _ => ⟨by simp [PyData.showable], by simp [PyData.hasDict]⟩
  | .bool _, _ => ⟨by simp [PyData.showable], by simp [PyData.hasDict]⟩
  | .int i, h => by
    have h' : i.natAbs < 100000 := of_decide_eq_true h
    refine ⟨?_, by simp [PyData.hasDict]⟩
    show decide (i.natAbs.log2 < 1920) = true
    refine decide_eq_true ?_
    by_cases z : i.natAbs = 0
    · rw [z]; decide
    · exact Nat.lt_of_lt_of_le ((Nat.log2_lt z).mpr (Nat.lt_trans h' (by decide : 100000 < 2 ^ 17))) (by decide)
  | .str x, _ => ⟨by simp [PyData.showable], by simp [PyData.hasDict]⟩
  | .list ds, h => by
    have := rp_shA ds h
    exact ⟨by simpa [PyData.showable] using this.1, by simpa [PyData.hasDict] using this.2⟩
  | .tuple ds, h => by
    have := rp_shA ds h
    exact ⟨by simpa [PyData.showable] using this.1, by simpa [PyData.hasDict] using this.2⟩
  | .dict _, h => by cases h
theorem rp_shA : ∀ ds : List PyData, rpA ds = true → PyData.showableAll ds = true ∧ PyData.hasDictAll ds = false
  | [], _ => ⟨by simp [PyData.showableAll], by simp [PyData.hasDictAll]⟩
  | d :: ds, h => by
    have h' : (rpB d && rpA ds) = true := h
    rw [Bool.and_eq_true] at h'
    have a := rp_sh d h'.1
    have b := rp_shA ds h'.2
    exact ⟨by simp [PyData.showableAll, a.1, b.1], by simp [PyData.hasDictAll, a.2, b.2]⟩
end
/-- how long the text of a thing may be, by its depth -/
def bd (n : Nat) : Nat := if n = 0 then 22 else if n = 1 then 60 else if n = 2 then 200 else if n = 3 then 500 else if n = 4 then 2100 else if n = 5 then 26000 else 140000
theorem bd_mono {n m : Nat} (h : n ≤ m) : bd n ≤ bd m := by
  unfold bd
  repeat' split
  all_goals omega
/-- a made thing: small, shallow, its text not long -/
structure Part (n : Nat) (d : PyData) : Prop where
  sb : smB 12 d = true
  fn : Fine n d
  rp : rpB d = true
  ln : (PyData.shown d).length ≤ bd n
theorem fine_up {n m : Nat} {d : PyData} (h : Fine n d) (l : n ≤ m) : Fine m d := ⟨h.nd, h.cl, Nat.le_trans h.dp l⟩
theorem Part.up {n m : Nat} {d : PyData} (h : Part n d) (l : n ≤ m) : Part m d := ⟨h.sb, fine_up h.fn l, h.rp, Nat.le_trans h.ln (bd_mono l)⟩
theorem shownA_map : ∀ ds : List PyData, PyData.shownAll ds = ds.map PyData.shown
  | [] => rfl
  | d :: ds => by
    show PyData.shown d :: PyData.shownAll ds = _
    rw [shownA_map ds]; rfl
theorem Part.repr {n : Nat} {d : PyData} (h : Part n d) (hn : n ≤ 6) : ReprOk d := ⟨h.fn.nd, (rp_sh d h.rp).1, (rp_sh d h.rp).2, Nat.le_trans h.fn.dp (by omega), Nat.le_trans h.ln (Nat.le_trans (bd_mono hn) (by decide))⟩
theorem sum_le {b : Nat} : ∀ {ls : List Nat}, (∀ l ∈ ls, l ≤ b) → ls.sum ≤ ls.length * b
  | [], _ => Nat.zero_le _
  | l :: ls, h => by
    have h1 := h l List.mem_cons_self
    have h2 := sum_le fun k hk => h k (List.mem_cons_of_mem _ hk)
    rw [List.sum_cons, List.length_cons, Nat.succ_mul]
    omega
theorem repr_list {n : Nat} {ds : List PyData} (k : Nat) (few : ds.length ≤ k) (hb : k * (bd n + 2) + 3 ≤ sizeLine) (hn : n ≤ 6) (h : ∀ d ∈ ds, Part n d) : ReprOk (.list ds) := by
  have f : Fine (n + 1) (.list ds) := fine_lst fun d hd => (h d hd).fn
  have r : rpB (.list ds) = true := rpA_mk fun d hd => (h d hd).rp
  refine ⟨f.nd, (rp_sh _ r).1, (rp_sh _ r).2, Nat.le_trans f.dp (by omega), ?_⟩
  show (listText (PyData.shownAll ds)).length ≤ _
  rw [shownA_map]
  refine Nat.le_trans (listText_len_le _) (Nat.le_trans ?_ hb)
  rw [List.map_map, List.length_map]
  have s : (ds.map ((·.length) ∘ PyData.shown)).sum ≤ ds.length * bd n := by
    have := sum_le (ls := ds.map ((·.length) ∘ PyData.shown)) (b := bd n) fun l hl => by
      obtain ⟨d, hd, rfl⟩ := List.mem_map.mp hl
      exact (h d hd).ln
    rwa [List.length_map] at this
  have : ds.length * bd n + 2 * ds.length = ds.length * (bd n + 2) := by rw [Nat.mul_add, Nat.mul_comm 2]
  have := Nat.mul_le_mul_right (bd n + 2) few
  omega
abbrev sMkRow : Stmt := tp 40
theorem scsMkRow : FnScope ["pile", "letters", "m", "size", "grain", "events", "now", "j", "way"] ["pile", "letters", "m", "size"] (defScope sMkRow) := ⟨rfl, rfl, rfl, by decide +kernel, rfl, by decide +kernel, by decide +kernel⟩
theorem nondec_snoc {ts : List Int} {t : Int} (h : nondec ts = true) (b : ∀ x ∈ ts, x ≤ t) : nondec (ts ++ [t]) = true := by
  unfold nondec at h ⊢
  rw [List.all_eq_true] at h ⊢
  intro i hi
  have hi' : i < ts.length := by
    have := List.mem_range.mp hi
    rw [List.length_append, List.length_singleton] at this
    omega
  rw [decide_eq_true_eq, List.getD_eq_getElem?_getD, List.getD_eq_getElem?_getD, List.getElem?_append_left hi']
  by_cases z : i + 1 < ts.length
  · rw [List.getElem?_append_left z]
    have := h i (List.mem_range.mpr (by omega))
    rw [decide_eq_true_eq, List.getD_eq_getElem?_getD, List.getD_eq_getElem?_getD] at this
    exact this
  · have e : i + 1 = ts.length := by omega
    rw [e, List.getElem?_append_right (Nat.le_refl _), Nat.sub_self, List.getElem?_eq_getElem hi']
    exact b _ (List.getElem_mem hi')
/-- a made event, not later than now -/
def EvM (now : Int) (d : PyData) : Prop := ∃ (c : Nat) (t : Int), d = .tuple [.str ⟨#[c]⟩, .int t] ∧ 97 ≤ c ∧ c ≤ 122 ∧ 0 ≤ t ∧ t ≤ now
theorem EvM.up {a b : Int} {d : PyData} (h : EvM a d) (l : a ≤ b) : EvM b d := by
  obtain ⟨c, t, e, h1, h2, h3, h4⟩ := h
  exact ⟨c, t, e, h1, h2, h3, by omega⟩
/-- made events -/
structure EvsM (now : Int) (evs : List PyData) : Prop where
  all : ∀ e ∈ evs, EvM now e
  ord : nondec (timesOf evs) = true
theorem EvsM.snoc {now t : Int} {evs : List PyData} {c : Nat} (h : EvsM now evs) (l : now ≤ t) (t0 : 0 ≤ t) (c1 : 97 ≤ c) (c2 : c ≤ 122) : EvsM t (evs ++ [.tuple [.str ⟨#[c]⟩, .int t]]) := by
  refine ⟨fun e he => ?_, ?_⟩
  · rcases List.mem_append.mp he with he | he
    · exact (h.all e he).up l
    · obtain rfl := List.mem_singleton.mp he
      exact ⟨c, t, rfl, c1, c2, t0, Int.le_refl _⟩
  · have e : timesOf (evs ++ [.tuple [.str ⟨#[c]⟩, .int t]]) = timesOf evs ++ [t] := by
      unfold timesOf
      rw [List.map_append]; rfl
    rw [e]
    refine nondec_snoc h.ord fun x hx => ?_
    unfold timesOf at hx
    obtain ⟨d, hd, rfl⟩ := List.mem_map.mp hx
    obtain ⟨c', t', rfl, _, _, _, h4⟩ := h.all d hd
    show t' ≤ t
    omega
/-- a made row -/
structure RowM (d : PyData) : Prop where
  ex : ∃ (g now : Int) (evs : List PyData), d = .tuple [.int g, .tuple evs] ∧ 1 ≤ g ∧ g ≤ 4 ∧ evs.length ≤ 8 ∧ now ≤ 4000 ∧ EvsM now evs
def AL (L : Str) : Prop := L = "abz"
theorem al_sign {L : Str} (h : AL L) : 1 ≤ L.length ∧ L.length ≤ 3 ∧ ∀ c ∈ L.cps.toList, 97 ≤ c ∧ c ≤ 122 := by
  subst h
  exact ⟨by decide +kernel, by decide +kernel, by decide +kernel⟩
abbrev preMR : List PyData → Prop := fun ds => ∃ (L : Str) (b n : Int), ds = [.str L, .int b, .int n] ∧ AL L ∧ 0 ≤ b ∧ b ≤ 100 ∧ 0 ≤ n ∧ n ≤ 8
abbrev postMR : List PyData → PyData → Prop := fun _ d => RowM d
section
variable {P : Program} {w : World} {K : PySem.W.Frag} {mg : Str → Option Value} {base : Heap} {f : Addr} {fd : FuncData}
theorem ok_mkrow (F : L2.Fun K "_law_row" "_law_row" sMkRow f fd) (bi : Bi mg) (c1 : Cal P w K mg base 2 "_law_take" ["pile", "size"] (spP 1 preT postT)) :
    FnG P w K mg base 3 f fd ["pile", "letters", "m", "size"] (spP 3 preMR postMR) := by
  refine fnP F scsMkRow (by simp) _ _ fun cdv A outer s H hg hr => ?_
  refine' ⟨_, ?h1, ?h2⟩
  case h1 =>
    have km : KMark K := ⟨⟩
    have nd : (["pile", "letters", "m", "size", "grain", "events", "now", "j", "way"] : List Str).Nodup := by decide +kernel
    have : (["pile", "letters", "m", "size", "grain", "events", "now", "j", "way"] : List Str)[0]? = some ("pile" : Str) := rfl
    have : (["pile", "letters", "m", "size", "grain", "events", "now", "j", "way"] : List Str)[1]? = some ("letters" : Str) := rfl
    have : (["pile", "letters", "m", "size", "grain", "events", "now", "j", "way"] : List Str)[2]? = some ("m" : Str) := rfl
    have : (["pile", "letters", "m", "size", "grain", "events", "now", "j", "way"] : List Str)[3]? = some ("size" : Str) := rfl
    have : (["pile", "letters", "m", "size", "grain", "events", "now", "j", "way"] : List Str)[4]? = some ("grain" : Str) := rfl
    have : (["pile", "letters", "m", "size", "grain", "events", "now", "j", "way"] : List Str)[5]? = some ("events" : Str) := rfl
    have : (["pile", "letters", "m", "size", "grain", "events", "now", "j", "way"] : List Str)[6]? = some ("now" : Str) := rfl
    have : (["pile", "letters", "m", "size", "grain", "events", "now", "j", "way"] : List Str)[7]? = some ("j" : Str) := rfl
    have : (["pile", "letters", "m", "size", "grain", "events", "now", "j", "way"] : List Str)[8]? = some ("way" : Str) := rfl
    fail "fTop"
  case h2 =>
    rintro p ds hl ⟨L, b, n, rfl, hL, b0, b1, n0, n8⟩
    show EvS K _ [some (.pile p), some (.dat (.str L)), some (.dat (.int b)), some (.dat (.int n)), none, none, none, none, none] _
    obtain ⟨l1, l2, l3⟩ := al_sign hL
    have sl : L.length ≤ sizeLine := Nat.le_trans l2 (by decide)
    have big : (100 : Nat) ≤ sizeLine := by decide
    refine seq_cut (fun e1 => ∃ g : Int, 1 ≤ g ∧ g ≤ 4 ∧ e1 = [some (.pile p), some (.dat (.str L)), some (.dat (.int b)), some (.dat (.int n)), some (.dat (.int g)), none, none, none, none]) ?_ ?_
    · fail "z"
      refine ⟨⟨4, rfl, by decide, by decide⟩, ?_⟩
      rintro y ⟨n', z, e, rfl, z0, z1⟩
      cases e
      fail "z"
      exact ⟨1 + z, by omega, by omega, rfl⟩
    rintro e ⟨g, g1, g4, rfl⟩
    refine es_seq (es_own fun pe => ?_)
    refine es_seq (es_asg (ev_int (eg_name ?_)))
    refine es_seq (es_for (ei_rng1 (ea_cons (ev_var rfl (ea_nil ⟨n, rfl, ⟨by omega, by omega⟩, ?_⟩)))))
    refine ⟨fun i e => ∃ (evs : List PyData) (now : Int) (o1 o2 : Option Sl), e = [some (.pile p), some (.dat (.str L)), some (.dat (.int b)), some (.dat (.int n)), some (.dat (.int g)), some (.own pe evs), some (.dat (.int now)), o1, o2] ∧ evs.length = i ∧ i ≤ 8 ∧ 0 ≤ now ∧ now ≤ 500 * i ∧ EvsM now evs,
      ⟨[], 0, none, none, rfl, rfl, by omega, Int.le_refl _, by omega, ⟨(fun _ h => nomatch h), rfl⟩⟩, ?_, ?_⟩
    · rintro i d e hd ⟨evs, now, o1, o2, rfl, h1, h2, h3, h4, h5⟩
      obtain ⟨hi, rfl⟩ := nums_get hd
      refine eg_name ?_
      refine seq_cut (fun e1 => ∃ way : Int, 0 ≤ way ∧ way < 5 ∧ e1 = [some (.pile p), some (.dat (.str L)), some (.dat (.int b)), some (.dat (.int n)), some (.dat (.int g)), some (.own pe evs), some (.dat (.int now)), some (.dat (.int (0 + (i : Int)))), some (.dat (.int way))]) ?_ ?_
      · fail "z"
        refine ⟨⟨5, rfl, by decide, by decide⟩, ?_⟩
        rintro y ⟨n', z, e, rfl, z0, z1⟩
        cases e
        fail "z"
        exact ⟨z, z0, z1, rfl⟩
      rintro e ⟨way, w0, w5, rfl⟩
      refine seq_cut (fun e1 => ∃ t : Int, now ≤ t ∧ t ≤ now + 500 ∧ e1 = [some (.pile p), some (.dat (.str L)), some (.dat (.int b)), some (.dat (.int n)), some (.dat (.int g)), some (.own pe evs), some (.dat (.int t)), some (.dat (.int (0 + (i : Int)))), some (.dat (.int way))]) ?_ ?_
      · have hp : 1 ≤ (b + 2) * g ∧ (b + 2) * g ≤ 408 := by
          have : g = 1 ∨ g = 2 ∨ g = 3 ∨ g = 4 := by omega
          rcases this with rfl | rfl | rfl | rfl <;> omega
        fail "z"
        · rename_i hw
          have hw' : 0 < way := of_decide_eq_true hw
          refine ⟨⟨_, rfl, by omega, by omega⟩, ?_⟩
          rintro y1 ⟨n1, z1, e, rfl, z10, z11⟩
          cases e
          fail "z"
          refine rd_timesI (.inr ⟨by omega, by omega⟩) ?_
          fail "z"
          refine ⟨⟨_, rfl, hp.1, by omega⟩, ?_⟩
          rintro y2 ⟨n2, z2, e, rfl, z20, z21⟩
          cases e
          fail "z"
          have pick : ∃ u : Int, L2.atI [PyData.int 0, .int 1, .int g, .int z1, .int z2] way = some (.int u) ∧ 0 ≤ u ∧ u ≤ 500 := by
            have : way = 1 ∨ way = 2 ∨ way = 3 ∨ way = 4 := by omega
            rcases this with rfl | rfl | rfl | rfl
            · exact ⟨1, rfl, by omega, by omega⟩
            · exact ⟨g, rfl, by omega, by omega⟩
            · exact ⟨z1, rfl, by omega, by omega⟩
            · exact ⟨z2, rfl, by omega, by omega⟩
          obtain ⟨u, hu, u0, u1⟩ := pick
          refine rd_ixL hu ?_
          fail "z"
          exact ⟨now + u, by omega, by omega, rfl⟩
        · exact ⟨now, by omega, by omega, rfl⟩
      rintro e ⟨t, t1, t2, rfl⟩
      refine es_append (ds0 := evs) rfl ?_
      fail "z"
      refine rc_lenS sl ?_
      fail "z"
      refine ⟨⟨_, rfl, by omega, by omega⟩, ?_⟩
      rintro y ⟨n', z6, e, rfl, z60, z61⟩
      cases e
      obtain ⟨j, rfl⟩ := Int.eq_ofNat_of_zero_le z60
      have jl : j < L.cps.toList.length := by
        have : L.cps.toList.length = L.length := Array.length_toList
        omega
      obtain ⟨c1', c2'⟩ := l3 _ (List.getElem_mem jl)
      refine rd_ixS (c := L.cps.toList[j]) sl (atI_nat (List.getElem?_eq_getElem jl)) ?_
      fail "z"
      have n8' : n.toNat ≤ 8 := by omega
      refine ⟨Nat.lt_of_lt_of_le (show evs.length < 100 by omega) big, evs ++ [.tuple [.str ⟨#[L.cps.toList[j]]⟩, .int t]], t, _, _, rfl, by rw [List.length_append, List.length_singleton, h1], by omega, by omega, by omega, h5.snoc t1 (by omega) c1' c2'⟩
    · rintro e ⟨evs, now, o1, o2, rfl, h1, h2, h3, h4, h5⟩
      refine es_ret (ev_tup (ea_cons (ev_var rfl (ea_cons (ev_cb (ea_cons (ev_own rfl (ea_nil (rc_tuple (ea_nil ⟨(by show 2 ≤ sizeLine; decide), rfl, ?_⟩))))))))))
      rw [nums_length] at h1
      exact ⟨⟨g, now, evs, rfl, g1, g4, by omega, by omega, h5⟩⟩
end


abbrev lPick : Stmt := tp 38
theorem sclPick : FnScope ["pile", "some"] ["pile", "some"] (defScope lPick) := ⟨rfl, rfl, rfl, by decide +kernel, rfl, by decide +kernel, by decide +kernel⟩
abbrev lCaught : Stmt := tp 50
theorem sclCaught : FnScope ["text", "e"] ["text"] (defScope lCaught) := ⟨rfl, rfl, rfl, by decide +kernel, rfl, by decide +kernel, by decide +kernel⟩
abbrev lBoth : Stmt := tp 48
theorem sclBoth : FnScope ["text", "due", "error", "found", "e"] ["text"] (defScope lBoth) := ⟨rfl, rfl, rfl, by decide +kernel, rfl, by decide +kernel, by decide +kernel⟩
/-! ### what reading lets out -/
/-- a def of a text that hands back what it caught -/
def spCau (C : Addr) (pre : List PyData → Prop) (post : List PyData → Int → Prop) : Sp := fun vs H Q _ => ∃ (G : Hp) (ds : List PyData), Ex G H ∧ DdAll G vs ds ∧ pre ds ∧
  ∀ a G' H' n, post ds n → Ex G G' → Ex G' H' → Ex H H' → (∀ q o, H q = some o → G q = none → G' q = none) → errN C n G' (.ref a) → Q (.ref a) H'
theorem firstNone_lt : ∀ {ds : List PyData} {k : Nat}, firstNone ds = some k → k < ds.length
  | [], k, h => by cases h
  | d :: r, k, h => by
    have h' : (if isNone d = true then some 0 else (firstNone r).map (· + 1)) = some k := h
    split at h'
    · obtain rfl := Option.some.inj h'
      exact Nat.succ_pos _
    · obtain ⟨j, hj, rfl⟩ := Option.map_eq_some_iff.mp h'
      have := firstNone_lt hj
      simp only [List.length_cons]
      omega
theorem bad_small {x : Str} {n : Int} (hx : textOk x) (h : readF x = .bad n) : n.natAbs < 1000000 := by
  have hL := lines_few hx
  have pl : (partsF (linesF x)).length = (linesF x).length := by unfold partsF; rw [List.length_map, List.length_range]
  unfold readF at h
  split at h
  · rename_i k hk
    have := firstNone_lt hk
    injection h with h
    omega
  · split at h
    · injection h with h
      omega
    · split at h
      · cases h
      · injection h with h
        omega
theorem digits_lt : ∀ (l : List Nat) (a : Nat), (∀ c ∈ l, dig c = true) → l.foldl (fun acc c => acc * 10 + (c - 48)) a < (a + 1) * 10 ^ l.length
  | [], a, _ => by simp
  | c :: r, a, h => by
    have hc : 48 ≤ c ∧ c ≤ 57 := of_decide_eq_true (h c (.head _))
    have := digits_lt r (a * 10 + (c - 48)) fun d hd => h d (.tail _ hd)
    rw [List.foldl_cons, List.length_cons, Nat.pow_succ]
    refine Nat.lt_of_lt_of_le this ?_
    rw [Nat.mul_comm (10 ^ r.length) 10, ← Nat.mul_assoc]
    exact Nat.mul_le_mul_right _ (by omega)
theorem numP_small {w : Str} {n : Nat} (h : numP w = .int n) : n < 10 ^ 30 := by
  unfold numP numOf at h
  split at h
  · rename_i k hk
    split at hk
    · rename_i hb
      simp only [Bool.and_eq_true, decide_eq_true_eq] at hb
      split at hk
      · cases hk
      · obtain rfl := Option.some.inj hk
        have e : ((NumText.digitsVal w.cps.toList : Nat) : Int) = (n : Int) := by injection h
        have lt := digits_lt w.cps.toList 0 (List.all_eq_true.mp hb.2.2)
        have hl : w.cps.toList.length ≤ 30 := by rw [show w.cps.toList.length = w.length from Array.length_toList]; exact hb.2.1
        have := Nat.pow_le_pow_right (show 0 < 10 by decide) hl
        have e2 : NumText.digitsVal w.cps.toList = w.cps.toList.foldl (fun acc c => acc * 10 + (c - 48)) 0 := rfl
        rw [← e2] at lt
        omega
    · cases hk
  · cases h
/-- what may be shown, not long -/
structure Sh (k b : Nat) (d : PyData) : Prop where
  nd : noDict d = true
  sh : d.showable = true
  hd : d.hasDict = false
  dp : d.depth ≤ k
  ln : d.shown.length ≤ b
theorem sh_none : Sh 0 100 .none := ⟨rfl, by simp [PyData.showable], by simp [PyData.hasDict], Nat.zero_le _, by decide +kernel⟩
theorem sh_int {n : Nat} (h : n < 10 ^ 30) : Sh 0 31 (.int n) := by
  refine ⟨rfl, ?_, by simp [PyData.hasDict], Nat.zero_le _, ?_⟩
  · show decide ((n : Int).natAbs.log2 < 1920) = true
    refine decide_eq_true ?_
    by_cases z : (n : Int).natAbs = 0
    · rw [z]; decide
    · exact Nat.lt_of_lt_of_le ((Nat.log2_lt z).mpr (Nat.lt_of_lt_of_le (show (n : Int).natAbs < 10 ^ 30 by simpa using h) (by decide : 10 ^ 30 ≤ 2 ^ 100))) (by decide)
  · show (PySem.Str.ofString (toString (n : Int))).length ≤ 31
    have z : (toString (n : Int)).length ≤ 30 + 1 := int_text_length_le10 (k := 30) (by decide) (by simpa using h)
    rw [PySem.ofString_length]; omega
theorem sh_let {a : Str} (h : isLet (.str a) = true) : Sh 0 31 (.str a) := by
  obtain ⟨z, c, e, rfl, hc⟩ := let_str h
  injection e with e
  subst e
  refine ⟨rfl, by simp [PyData.showable], by simp [PyData.hasDict], Nat.zero_le _, ?_⟩
  show (reprText _).length ≤ 31
  refine Nat.le_trans (PySem.StrLaws.reprText_len _ fun k hk => ?_) ?_
  · obtain rfl := List.mem_singleton.mp hk
    exact Nat.lt_of_le_of_lt hc.2 (by decide)
  · show 10 * 1 + 2 ≤ 31
    decide
theorem sh_all {k b : Nat} : ∀ {ds : List PyData}, (∀ d ∈ ds, Sh k b d) → noDictAll ds = true ∧ PyData.showableAll ds = true ∧ PyData.hasDictAll ds = false ∧ PyData.depthAll ds ≤ k
  | [], _ => ⟨rfl, by simp [PyData.showableAll], by simp [PyData.hasDictAll], Nat.zero_le _⟩
  | d :: r, h => by
    obtain ⟨h1, h2, h3, h4⟩ := sh_all fun e he => h e (.tail _ he)
    have q := h d (.head _)
    refine ⟨?_, by simp [PyData.showableAll, q.sh, h2], by simp [PyData.hasDictAll, q.hd, h3], ?_⟩
    · show (noDict d && noDictAll r) = true
      rw [q.nd, h1]; rfl
    · show max (PyData.depth d) (PyData.depthAll r) ≤ k
      exact Nat.max_le.mpr ⟨q.dp, h4⟩
theorem sh_tup {k b : Nat} {ds : List PyData} (h : ∀ d ∈ ds, Sh k b d) : Sh (k + 1) (ds.length * (b + 2) + 3) (.tuple ds) := by
  obtain ⟨h1, h2, h3, h4⟩ := sh_all h
  refine ⟨h1, by simpa [PyData.showable] using h2, by simpa [PyData.hasDict] using h3, ?_, ?_⟩
  · show PyData.depthAll ds + 1 ≤ k + 1
    omega
  · show (tupleText (PyData.shownAll ds)).length ≤ _
    rw [shownA_map]
    refine Nat.le_trans (tupText_le (b := b) fun t ht => ?_) (by rw [List.length_map]; exact Nat.le_refl _)
    obtain ⟨d, hd, rfl⟩ := List.mem_map.mp ht
    exact (h d hd).ln
theorem Sh.up {k b k' b' : Nat} {d : PyData} (h : Sh k b d) (l : k ≤ k') (m : b ≤ b') : Sh k' b' d := ⟨h.nd, h.sh, h.hd, Nat.le_trans h.dp l, Nat.le_trans h.ln m⟩
theorem sh_event (ws : List Str) : Sh 1 100 (eventF ws) := by
  match ws with
  | [a, w] =>
    have e : eventF [a, w] = if isLet (.str a) && !isNone (numP w) then .tuple [.str a, numP w] else .none := rfl
    rw [e]
    cases h : isLet (.str a) with
    | false => exact sh_none.up (by decide) (Nat.le_refl _)
    | true =>
      rcases numP_cases w with e | ⟨n, e⟩
      · rw [e]; exact sh_none.up (by decide) (Nat.le_refl _)
      · have := numP_small e
        rw [e]
        refine (sh_tup (k := 0) (b := 31) (ds := [.str a, .int n]) fun d hd => ?_).up (Nat.le_refl _) (by show 2 * (31 + 2) + 3 ≤ 100; decide)
        rcases List.mem_cons.mp hd with rfl | hd
        · exact sh_let h
        · obtain rfl := List.mem_singleton.mp hd
          exact sh_int this
  | [] => exact sh_none.up (by decide) (Nat.le_refl _)
  | [_] => exact sh_none.up (by decide) (Nat.le_refl _)
  | _ :: _ :: _ :: _ => exact sh_none.up (by decide) (Nat.le_refl _)
theorem sh_count (ws : List Str) (g : Str) : Sh 1 100 (countF ws g) := by
  by_cases h : ws.length = 2
  · match ws, h with
    | [a, w], _ =>
      rw [count_two]
      split
      · rcases numP_cases w with e | ⟨n, e⟩
        · rw [e]; exact sh_none.up (by decide) (Nat.le_refl _)
        · have := numP_small e
          rw [e]; exact (sh_int this).up (by decide) (by decide)
      · exact sh_none.up (by decide) (Nat.le_refl _)
  · rw [count_not h]; exact sh_none.up (by decide) (Nat.le_refl _)
theorem sh_part (L : List (List Str)) (n : Nat) : Sh 1 100 (partF L n) := by
  unfold partF
  split
  · exact sh_event _
  · exact sh_count _ _
theorem row_repr {x : Str} {d : PyData} (hx : textOk x) (h : readF x = .row d) : ∃ ds, d = .tuple ds ∧ ReprOk (.tuple ds) := by
  have hL := lines_few hx
  have pl : (partsF (linesF x)).length = (linesF x).length := by unfold partsF; rw [List.length_map, List.length_range]
  have all : ∀ d ∈ partsF (linesF x), Sh 1 100 d := fun d hd => by
    obtain ⟨n, _, rfl⟩ := List.mem_map.mp hd
    exact sh_part _ n
  unfold readF at h
  split at h
  · cases h
  · split at h
    · cases h
    · rename_i g r e
      split at h
      · injection h with h
        subst h
        rw [e] at all pl
        have t := (sh_tup (k := 1) (b := 100) (ds := r) fun d hd => all d (.tail _ hd)).up (Nat.le_refl _) (show r.length * (100 + 2) + 3 ≤ 95000 by rw [List.length_cons] at pl; omega)
        have q := sh_tup (k := 2) (b := 95000) (ds := [g, .tuple r]) fun d hd => by
          rcases List.mem_cons.mp hd with rfl | hd
          · exact (all _ (.head _)).up (by decide) (by decide)
          · obtain rfl := List.mem_singleton.mp hd
            exact t
        exact ⟨_, rfl, q.nd, q.sh, q.hd, Nat.le_trans q.dp (by decide), Nat.le_trans q.ln (by rw [sizeLine_eq]; show 2 * (95000 + 2) + 3 ≤ _; decide)⟩
      · cases h
section
variable {P : Program} {w : World} {K : PySem.W.Frag} {mg : Str → Option Value} {base : Heap} {f : Addr} {fd : FuncData}
abbrev postRead : List PyData → PyData → Prop := fun ds d => ∃ x, ds = [.str x] ∧ readF x = .row d
abbrev badRead : List PyData → Int → Prop := fun ds n => ∃ x, ds = [.str x] ∧ readF x = .bad n
theorem ok_pick (F : L2.Fun K "_law_pick" "_law_pick" lPick f fd) (bi : Bi mg) (c1 : Cal P w K mg base 2 "_law_take" ["pile", "size"] (spP 1 preT postT)) :
    FnG P w K mg base 3 f fd ["pile", "some"] (spP 1 (fun ds => ∃ xs : List PyData, ds = [.list xs] ∧ 1 ≤ xs.length ∧ xs.length ≤ 100) fun ds d => ∃ xs, ds = [.list xs] ∧ d ∈ xs) := by
  refine fnP F sclPick (by simp) _ _ fun cdv A outer s H hg hr => ?_
  refine' ⟨_, ?h1, ?h2⟩
  case h1 =>
    have km : KMark K := ⟨⟩
    have nd : (["pile", "some"] : List Str).Nodup := by decide +kernel
    have : (["pile", "some"] : List Str)[0]? = some ("pile" : Str) := rfl
    have : (["pile", "some"] : List Str)[1]? = some ("some" : Str) := rfl
    fail "fTop"
  case h2 =>
    rintro p ds hl ⟨xs, rfl, h1, h2⟩
    show EvS K _ [some (.pile p), some (.dat (.list xs))] _
    fail "w"
    refine ⟨⟨_, rfl, by omega⟩, fun d hd => ?_⟩
    obtain ⟨n, z, e, rfl, z0, z1⟩ := hd
    injection e with e _
    injection e with e
    subst e
    have lt : z.toNat < xs.length := by omega
    have ez : z = ((z.toNat : Nat) : Int) := by omega
    rw [ez]
    refine rd_ixL (d := xs[z.toNat]) (L2.atI_nat (List.getElem?_eq_getElem lt)) ?_
    exact ⟨rfl, xs, rfl, List.getElem_mem lt⟩
theorem ok_both {A : Str → Addr} (F : L2.Fun K "_law_both" "_law_both" lBoth f fd) (bi : Bi mg) (es : ErrsT K mg A) (ex : PySem.W.exmOne K (.ref (A "NoText")) (.ref (A "SinceError")) = some true) (xf : XfC K (A "NoText")) (nl : PySem.W.findIn K (.ref (A "NoText")) "line" = some none)
    (c1 : CalX P w K mg base 5 "read_row" ["text"] (spXN (A "NoText") 1 preX postRead badRead)) (c2 : Cal P w K mg base 4 "_law_due" ["text"] (spF 1 preXL fDue)) (c3 : Cal P w K mg base 1 "_law_word_of" ["error"] (spWN (A "NoText") fun _ d => d = .str "text")) :
    FnG P w K mg base 6 f fd ["text"] (spF 1 preXL fun _ => .bool true) := by
  have gS := es.g "SinceError" (by decide)
  refine fnD F sclBoth _ _ fun cdv A' outer s H hg hr => ?_
  refine' ⟨_, ?h1, ?h2⟩
  case h1 =>
    have km : KMark K := ⟨⟩
    have nd : (["text", "due", "error", "found", "e"] : List Str).Nodup := by decide +kernel
    have : (["text", "due", "error", "found", "e"] : List Str)[0]? = some ("text" : Str) := rfl
    have : (["text", "due", "error", "found", "e"] : List Str)[1]? = some ("due" : Str) := rfl
    have : (["text", "due", "error", "found", "e"] : List Str)[2]? = some ("error" : Str) := rfl
    have : (["text", "due", "error", "found", "e"] : List Str)[3]? = some ("found" : Str) := rfl
    have : (["text", "due", "error", "found", "e"] : List Str)[4]? = some ("e" : Str) := rfl
    fail "fTop"
  case h2 =>
    rintro ds hl ⟨x, rfl, hx, hch⟩
    show EvS K _ [some (.dat (.str x)), none, none, none, none] _
    fail "w"
    refine ⟨⟨x, rfl, hx, hch⟩, ?_⟩
    refine eg_name ?_
    dsimp only
    refine es_seq (es_asg (ev_non (eg_name ?_)))
    dsimp only
    refine es_seq (es_asg (ev_non (eg_name ?_)))
    dsimp only
    have hdue : fDue [.str x] = match readF x with | .row d => d | .bad n => .int n := rfl
    refine seq_cut (fun e1 => (∃ d, readF x = .row d ∧ e1 = [some (.dat (.str x)), some (.dat d), some (.dat .none), some (.dat d), none]) ∨ ∃ n, readF x = .bad n ∧ e1 = [some (.dat (.str x)), some (.dat (.int n)), some (slN' (A "NoText") n), some (.dat .none), none]) ?_ ?_
    · refine FD.en_tryKeep (i := 4) (j := 2) (C := A "NoText") (tb := fun W => tAsg (tCallX (spXN (A "NoText") 1 preX postRead badRead) W (tCons (tVar 0) tNil)) (gName 3)) (R := fun m e => readF x = .bad m ∧ e = [some (.dat (.str x)), some (.dat (fDue [.str x])), some (.dat .none), some (.dat .none), none]) (by decide) (fun W => ?_) ex ?_
      · refine en_asgC (ea_cons (ev_var rfl (ea_nil ⟨rfl, ⟨x, rfl, hx⟩, fun d pd => ?_, fun m pm => ?_⟩)))
        · obtain ⟨x', e, hr⟩ := pd
          cases e
          refine .inl ⟨d, hr, ?_⟩
          rw [hdue, hr]; rfl
        · obtain ⟨x', e, hr⟩ := pm
          cases e
          exact ⟨hr, rfl⟩
      · rintro m e ⟨hr, rfl⟩
        refine ⟨by show (4 : Nat) < 5; decide, .inr ⟨m, hr, ?_⟩⟩
        rw [hdue, hr]; rfl
    · rintro e1 (⟨d, hr, rfl⟩ | ⟨n, hr, rfl⟩)
      · refine es_seq (es_if (ev_test (ev_op (ev_var rfl (ev_non (rd_isNotN ⟨_, rfl, (fun h => by cases h), fun _ => es_next ?_⟩))))))
        dsimp only
        obtain ⟨ds, rfl, ro⟩ : ∃ ds, d = .tuple ds ∧ ReprOk (.tuple ds) := row_repr hx hr
        refine es_ret (ev_op (ev_cb (ea_cons (ev_var rfl (ea_nil (rc_reprT ro (ev_cb (ea_cons (ev_var rfl (ea_nil (rc_reprT ro (rd_eqS ?_))))))))))))
        show PyData.bool _ = .bool true
        rw [decide_eq_true rfl]
      · refine es_seq (es_if (ev_test (FD.ev_isntN rfl ⟨_, rfl, (fun _ => ?_), fun h => by cases h⟩)))
        have lg : n.natAbs.log2 < 1920 := Nat.lt_trans (small_log (bad_small hx hr)) (by decide)
        refine es_ret (ev_and (ev_op (ev_var rfl (ev_non (rd_isN ⟨_, rfl, (fun _ => ?_), fun h => by cases h⟩)))))
        refine ev_and (ev_op (FD.ev_callWN rfl fun d hd => ?_))
        subst hd
        refine ev_str (rd_eqS ⟨_, rfl, (fun _ => ?_), fun h => by cases h⟩)
        refine ev_op (ev_cb (ea_cons (FD.ev_line rfl xf nl (ea_nil (rc_reprI lg (ev_cb (ea_cons (ev_var rfl (ea_nil (rc_reprI lg (rd_eqS ?_)))))))))))
        show PyData.bool _ = .bool true
        rw [decide_eq_true rfl]
end


section
variable {P : Program} {w : World} {K : PySem.W.Frag} {mg : Str → Option Value} {base : Heap} {f : Addr} {fd : FuncData}
abbrev preBad : List PyData → Prop := fun ds => ∃ (x : Str) (n : Int), ds = [.str x] ∧ textOk x ∧ readF x = .bad n
theorem ok_caught {A : Str → Addr} (F : L2.Fun K "_law_caught" "_law_caught" lCaught f fd) (bi : Bi mg) (es : ErrsT K mg A) (ex : PySem.W.exmOne K (.ref (A "NoText")) (.ref (A "SinceError")) = some true)
    (c1 : CalX P w K mg base 5 "read_row" ["text"] (spXN (A "NoText") 1 preX postRead badRead)) :
    FnG P w K mg base 6 f fd ["text"] (spCau (A "NoText") preBad badRead) := by
  have gS := es.g "SinceError" (by decide)
  refine fnG_of F sclCaught (fun vs H Q E h => ?_) fun cdv A' outer s H vs Q hg hr h => ?_
  · obtain ⟨G, ds, _, r, ⟨x, n, e, _⟩, _⟩ := h
    rw [r.length, e]; rfl
  obtain ⟨G, ds, hx, r, ⟨x, n, e, ht, hb⟩, q⟩ := h
  subst e
  refine' ⟨_, ?h1, ?h2⟩
  case h1 =>
    have km : KMark K := ⟨⟩
    have nd : (["text", "e"] : List Str).Nodup := by decide +kernel
    have : (["text", "e"] : List Str)[0]? = some ("text" : Str) := rfl
    have : (["text", "e"] : List Str)[1]? = some ("e" : Str) := rfl
    fail "fTop"
  case h2 =>
    have body : EvS K (tSeq (fun D σ H => tDrop (tCallX (spXN (A "NoText") 1 preX postRead badRead) (wKeepR K (.ref (A "SinceError")) 1 (fun _ _ _ => tRet (tVar 1)) D) (tCons (tVar 0) tNil)) D σ H) (tRet (tC .non))) [some (.dat (.str x)), none]
        { nx := fun _ => False, rt := fun _ _ => False, rn := fun F _ => F = fun G H p => ∃ dd, G dd = some (lineF n) ∧ H p = some (ErrAt (.ref (A "NoText")) (some dd) p) } := by
      refine es_seq (FD.en_tryRet (i := 1) (C := A "NoText") (tb := fun W => tDrop (tCallX (spXN (A "NoText") 1 preX postRead badRead) W (tCons (tVar 0) tNil))) (R := fun m e => m = n ∧ e = [some (.dat (.str x)), none]) (fun W => ?_) ex ?_)
      · refine en_drop (ea_cons (ev_var rfl (ea_nil ⟨rfl, ⟨x, rfl, ht⟩, fun d pd => ?_, fun m pm => ?_⟩)))
        · obtain ⟨x', e, hr⟩ := pd
          cases e
          rw [hb] at hr; cases hr
        · obtain ⟨x', e, hr⟩ := pm
          cases e
          rw [hb] at hr
          injection hr with hr
          exact ⟨hr.symm, rfl⟩
      · rintro m e ⟨rfl, rfl⟩
        exact ⟨by show (1 : Nat) < 2; decide, rfl⟩
    refine body _ _ G H _ (startD hx r) (fun _ _ _ _ z => z.elim) (fun _ _ _ _ _ _ z => z.elim) (fun _ _ _ _ z => z.elim) (fun _ _ _ _ z => z.elim) (fun F p σ' G' H' e' hF x' I gp hh hB => ?_)
    have hF' : F = fun G H p => ∃ dd, G dd = some (lineF n) ∧ H p = some (ErrAt (.ref (A "NoText")) (some dd) p) := hF
    subst hF'
    obtain ⟨dd, hd, hp⟩ := hh
    have nd : dd ≠ p := fun z => by rw [z, gp] at hd; cases hd
    have x2 : Ex G' (upd G' p (ErrAt (.ref (A "NoText")) (some dd) p)) := Ex.new gp
    have x3 : Ex (upd G' p (ErrAt (.ref (A "NoText")) (some dd) p)) H' := fun b o hb => by
      by_cases z : b = p
      · subst z
        rw [upd_same] at hb
        cases hb
        exact hp
      · rw [upd_ne z] at hb
        exact I.exH b o hb
    refine q p _ H' n ⟨x, rfl, hb⟩ (x'.trans x2) x3 (fun a o h => I.keep a o h fun z => z) (fun a o h g => ?_) ⟨p, dd, rfl, upd_same, by rw [upd_ne nd]; exact hd⟩
    have z : a ≠ p := fun z => by
      subst z
      have hB' : H a = none := hB
      rw [hB'] at h; cases h
    rw [upd_ne z]
    exact I.nog a o h g
end


/-! ### what is written is read -/
theorem head_num : ∀ n : Nat, 0 < n → ∃ c r, TL.numL n = c :: r ∧ c ≠ 48 := fun n => by
  induction n using Nat.strongRecOn with
  | _ n ih =>
    intro h
    by_cases l : n < 10
    · exact ⟨48 + n, [], TL.numL_lt l, by omega⟩
    · obtain ⟨c, r, e, hc⟩ := ih (n / 10) (by omega) (by omega)
      exact ⟨c, r ++ [48 + n % 10], by rw [TL.numL_step (by omega), e]; rfl, hc⟩
theorem numS_tl (n : Nat) : TL.tl (numS (n : Int)) = TL.numL n := TL.tl_num n
theorem numP_num {n : Nat} (h : n < 1000000) : numP (numS (n : Int)) = .int (n : Int) := by
  have e : (numS (n : Int)).cps.toList = TL.numL n := TL.tl_num n
  have hd : (numS (n : Int)).cps.toList.all dig = true := by
    rw [e]
    refine List.all_eq_true.mpr fun c hc => ?_
    have := TL.numL_digits n c hc
    exact decide_eq_true this
  have ln : (numS (n : Int)).length = (TL.numL n).length := by rw [TL.len_tl, numS_tl]
  have l2 : (TL.numL n).length ≤ 6 := TL.numL_len (by decide) (by omega)
  have l1 : 1 ≤ (TL.numL n).length := by
    have := TL.numL_ne n
    cases q : TL.numL n with
    | nil => exact absurd q this
    | cons a b => exact Nat.succ_pos _
  by_cases z : n = 0
  · subst z
    kernel_rfl
  · obtain ⟨c, r, q, hc⟩ := head_num n (by omega)
    rw [numP_of hd (by omega) (by omega) (e.trans q), decide_eq_false hc, e, TL.numL_val]
    rfl
theorem numS_free {n s : Nat} (h : s < 48) : s ∉ TL.tl (numS (n : Int)) := by
  rw [numS_tl]
  exact TL.numL_free (.inl h)
theorem line_two {a w : Str} (ha : 32 ∉ TL.tl a) (hw : 32 ∉ TL.tl w) : Txt.split (a ++ sp1 ++ w) sp1 = [a, w] := by
  have e : a ++ sp1 ++ w = Txt.join sp1 [a, w] := by
    rw [TL.join_eq]
    refine TL.ext_tl ?_
    rw [TL.tl_append, TL.tl_append, TL.tl_join]
    show _ = TL.tl a ++ (TL.tl sp1 ++ TL.tl w)
    rw [List.append_assoc]
  rw [e]
  refine TL.split_join sp_tl (by decide +kernel) (by simp) fun p hp => ?_
  rcases List.mem_cons.mp hp with rfl | hp
  · exact ha
  · obtain rfl := List.mem_singleton.mp hp
    exact hw
def evWords : PyData → List Str
  | .tuple [.str z, .int t] => [z, numS t]
  | _ => []
theorem line_ev {d : PyData} (h : EvM 4000 d) : Txt.split (evTxt d) sp1 = evWords d ∧ 10 ∉ TL.tl (evTxt d) ∧ eventF (evWords d) = d := by
  obtain ⟨c, t, rfl, h1, h2, h3, h4⟩ := h
  obtain ⟨n, rfl⟩ := Int.eq_ofNat_of_zero_le h3
  have e : evTxt (.tuple [.str ⟨#[c]⟩, .int (n : Int)]) = ⟨#[c]⟩ ++ sp1 ++ numS (n : Int) := by
    show Str.empty ++ (⟨#[c]⟩ : Str) ++ sp1 ++ numS (n : Int) = _
    rw [emp_app]
  refine ⟨?_, ?_, ?_⟩
  · rw [e]
    refine line_two (fun m => ?_) (numS_free (by decide))
    have := List.mem_singleton.mp (show 32 ∈ [c] from m)
    omega
  · rw [e, TL.tl_append, TL.tl_append, sp_tl]
    intro m
    rcases List.mem_append.mp m with m | m
    · rcases List.mem_append.mp m with m | m
      · have := List.mem_singleton.mp (show 10 ∈ [c] from m)
        omega
      · have := List.mem_singleton.mp m
        omega
    · exact numS_free (by decide) m
  · show (if isLet (.str ⟨#[c]⟩) && !isNone (numP (numS (n : Int))) then PyData.tuple [.str ⟨#[c]⟩, numP (numS (n : Int))] else .none) = _
    rw [numP_num (by omega), show isLet (.str ⟨#[c]⟩) = true from decide_eq_true ⟨h1, h2⟩]
    rfl
theorem line_grain (g : Nat) : Txt.split (Str.empty ++ "grain " ++ numS (g : Int)) sp1 = [("grain" : Str), numS (g : Int)] := by
  have e : Str.empty ++ "grain " ++ numS (g : Int) = ("grain" : Str) ++ sp1 ++ numS (g : Int) := by
    rw [emp_app]
    have q : ("grain " : Str) = "grain" ++ sp1 := by decide +kernel
    rw [q]
  rw [e]
  exact line_two (by decide +kernel) (numS_free (by decide))
theorem row_lines {g : Nat} {es : List PyData} (h : ∀ e ∈ es, EvM 4000 e) : linesF (rowTxt (g : Int) es) = ([("grain" : Str), numS (g : Int)] : List Str) :: es.map evWords := by
  have e : Txt.split (rowTxt (g : Int) es) nl = (Str.empty ++ "grain " ++ numS (g : Int)) :: es.map evTxt := by
    refine TL.split_join nl_tl (by decide +kernel) (by simp) fun p hp => ?_
    rcases List.mem_cons.mp hp with rfl | hp
    · rw [emp_app, TL.tl_append]
      intro m
      rcases List.mem_append.mp m with m | m
      · exact absurd m (by decide +kernel)
      · exact numS_free (by decide) m
    · obtain ⟨d, hd, rfl⟩ := List.mem_map.mp hp
      exact (line_ev (h d hd)).2.1
  unfold linesF
  rw [e, List.map_cons, line_grain, List.map_map]
  congr 1
  exact List.map_congr_left fun d hd => (line_ev (h d hd)).1
theorem range_getD {α β : Type} (f : α → β) (d : α) (ls : List α) : (List.range ls.length).map (fun i => f (ls.getD i d)) = ls.map f := by
  refine List.ext_getElem (by simp) fun i h1 h2 => ?_
  rw [List.getElem_map, List.getElem_map, List.getElem_range]
  congr 1
  have : i < ls.length := by simpa using h2
  rw [List.getD_eq_getElem?_getD, List.getElem?_eq_getElem this]; rfl
theorem parts_cons (l0 : List Str) (ls : List (List Str)) : partsF (l0 :: ls) = countF l0 "grain" :: ls.map eventF := by
  unfold partsF
  rw [List.length_cons, List.range_succ_eq_map, List.map_cons, List.map_map]
  congr 1
  have e : (partF (l0 :: ls) ∘ Nat.succ) = fun i => eventF (ls.getD i []) := by
    funext i
    rfl
  rw [e]
  exact range_getD eventF [] ls
theorem read_written {g now : Int} {es : List PyData} (g1 : 1 ≤ g) (g2 : g ≤ 4) (hn : now ≤ 4000) (h : EvsM now es) : readF (rowTxt g es) = .row (.tuple [.int g, .tuple es]) := by
  obtain ⟨n, rfl⟩ := Int.eq_ofNat_of_zero_le (show 0 ≤ g by omega)
  have hall : ∀ e ∈ es, EvM 4000 e := fun e he => (h.all e he).up hn
  have e2 : partsF (linesF (rowTxt (n : Int) es)) = .int (n : Int) :: es := by
    rw [row_lines hall, parts_cons, count_two, decide_eq_true rfl, numP_num (by omega), List.map_map]
    show PyData.int (n : Int) :: _ = _
    congr 1
    have : es.map (eventF ∘ evWords) = es.map id := List.map_congr_left fun d hd => (line_ev (hall d hd)).2.2
    rw [this, List.map_id]
  have hE : es.all isEv = true := List.all_eq_true.mpr fun d hd => by
    obtain ⟨c, t, rfl, h1, h2, h3, h4⟩ := hall d hd
    show (isLet (.str ⟨#[c]⟩) && isNum 0 (.int t)) = true
    rw [show isLet (.str ⟨#[c]⟩) = true from decide_eq_true ⟨h1, h2⟩, show isNum 0 (.int t) = true from decide_eq_true h3]
    rfl
  have hr : rowD (.tuple [.int (n : Int), .tuple es]) = true := by
    show (isNum 1 (.int (n : Int)) && (es.all isEv && nondec (timesOf es))) = true
    rw [hE, h.ord, show isNum 1 (.int (n : Int)) = true from decide_eq_true g1]; rfl
  have hf : firstNone (partsF (linesF (rowTxt (n : Int) es))) = none := by
    rw [e2]
    refine firstNone_no ?_
    rw [List.all_cons]
    refine (Bool.and_eq_true _ _).mpr ⟨rfl, List.all_eq_true.mpr fun d hd => ?_⟩
    obtain ⟨c, t, rfl, _⟩ := hall d hd
    rfl
  unfold readF
  rw [hf, e2]
  show (if rowD (.tuple [.int (n : Int), .tuple es]) then Rd.row (.tuple [.int (n : Int), .tuple es]) else _) = _
  rw [hr]; rfl


abbrev lBent : Stmt := tp 49
theorem sclBent : FnScope ["pile", "text", "signs", "words", "at", "sign", "way", "mark", "parts", "spot"] ["pile", "text"] (defScope lBent) := ⟨rfl, rfl, rfl, by decide +kernel, rfl, by decide +kernel, by decide +kernel⟩
/-! ### bent texts -/
def Chs (x : Str) : Prop := ∀ c ∈ x.cps.toList, c < 200
theorem chs_S {a : List Nat} (h : ∀ c ∈ a, c < 200) : Chs (SX.S a) := fun c hc => h c (by simpa [SX.S] using hc)
theorem chs_app {a b : Str} (ha : Chs a) (hb : Chs b) : Chs (a ++ b) := fun c hc => by
  have e : (a ++ b).cps.toList = a.cps.toList ++ b.cps.toList := TL.tl_append a b
  rw [e] at hc
  rcases List.mem_append.mp hc with h | h
  · exact ha c h
  · exact hb c h
theorem cut_to (x : Str) {i : Int} (h : 0 ≤ i) : L2.cutS x none (some i) = SX.S (x.cps.toList.take i.toNat) := by
  have := SX.slice_to (a := x.cps.toList) h
  rw [SX.S_tl] at this
  rw [C8.cutS_slice, this]
theorem cut_from (x : Str) {i : Int} (h : 0 ≤ i) : L2.cutS x (some i) none = SX.S (x.cps.toList.drop i.toNat) := by
  have := SX.slice_from (a := x.cps.toList) h
  rw [SX.S_tl] at this
  rw [C8.cutS_slice, this]
theorem tl_len (x : Str) : x.cps.toList.length = x.length := Array.length_toList
theorem bent_cut {x s : Str} {i j : Int} (hi : 0 ≤ i) (ij : i ≤ j) (hx : Chs x) (hs : Chs s) :
    (L2.cutS x none (some i) ++ s ++ L2.cutS x (some j) none).length ≤ x.length + s.length ∧ Chs (L2.cutS x none (some i) ++ s ++ L2.cutS x (some j) none) := by
  rw [cut_to x hi, cut_from x (by omega : 0 ≤ j)]
  refine ⟨?_, chs_app (chs_app (chs_S fun c hc => hx c (List.mem_of_mem_take hc)) hs) (chs_S fun c hc => hx c (List.mem_of_mem_drop hc))⟩
  rw [len_app, len_app, SX.S_len (List.take _ _), SX.S_len (List.drop _ _), List.length_take, List.length_drop, tl_len]
  omega
def wt (ps : List Str) : Nat := (ps.map fun p => p.length + 1).sum
theorem wt_app (a b : List Str) : wt (a ++ b) = wt a + wt b := by
  unfold wt
  rw [List.map_append, List.sum_append]
theorem wt_two : ∀ ps : List Str, wt ps = (ps.map (·.length)).sum + ps.length
  | [] => rfl
  | p :: r => by
    have := wt_two r
    unfold wt at this ⊢
    simp only [List.map_cons, List.sum_cons, List.length_cons]
    omega
theorem wt_join {c : Nat} : ∀ ps : List Str, (TL.joinL [c] (ps.map TL.tl)).length + 1 = if ps = [] then 1 else wt ps
  | [] => rfl
  | [p] => by
    show (TL.tl p).length + 1 = _
    rw [if_neg (by simp), ← TL.len_tl]; rfl
  | p :: q :: r => by
    have ih := wt_join (c := c) (q :: r)
    rw [if_neg (by simp)] at ih ⊢
    show (TL.tl p ++ ([c] ++ TL.joinL [c] ((q :: r).map TL.tl))).length + 1 = _
    rw [List.length_append, List.length_append, ← TL.len_tl, List.length_singleton]
    have e : wt (p :: q :: r) = (p.length + 1) + wt (q :: r) := rfl
    omega
theorem joinL_all {c : Nat} {Q : Nat → Prop} (hc : Q c) : ∀ ps : List (List Nat), (∀ p ∈ ps, ∀ k ∈ p, Q k) → ∀ k ∈ TL.joinL [c] ps, Q k
  | [], _, k, h => by cases h
  | [p], hp, k, h => hp p (.head _) k h
  | p :: q :: r, hp, k, h => by
    have h' : k ∈ p ++ ([c] ++ TL.joinL [c] (q :: r)) := h
    rcases List.mem_append.mp h' with h | h
    · exact hp p (.head _) k h
    · rcases List.mem_append.mp h with h | h
      · obtain rfl := List.mem_singleton.mp h
        exact hc
      · exact joinL_all hc (q :: r) (fun p hp' => hp p (.tail _ hp')) k h
def partsB (x m : Str) (i : Nat) (mid : List Str) : List Str := (Txt.split x m).take i ++ mid ++ (Txt.split x m).drop (i + 1)
theorem bent_parts {x m : Str} {c : Nat} (hm : TL.tl m = [c]) (hc : c < 200) (hx : Chs x) {i : Nat} (hi : i < (Txt.split x m).length) {mid : List Str} (hl : wt mid ≤ 32) (hw : ∀ w ∈ mid, Chs w) :
    ((partsB x m i mid).map (·.length)).sum + (partsB x m i mid).length ≤ x.length + 32 ∧ (Txt.join m (partsB x m i mid)).length ≤ x.length + 32 ∧ Chs (Txt.join m (partsB x m i mid)) := by
  have e := split_joinL x m
  rw [hm] at e
  have w1 := wt_join (c := c) (Txt.split x m)
  rw [e, if_neg (split_ne x m), ← TL.len_tl] at w1
  have e2 : Txt.split x m = (Txt.split x m).take i ++ [(Txt.split x m)[i]] ++ (Txt.split x m).drop (i + 1) := by
    rw [List.append_assoc]
    show _ = _ ++ ((Txt.split x m)[i] :: (Txt.split x m).drop (i + 1))
    rw [← List.drop_eq_getElem_cons hi, List.take_append_drop]
  have w2 : wt (Txt.split x m) = wt ((Txt.split x m).take i) + wt [(Txt.split x m)[i]] + wt ((Txt.split x m).drop (i + 1)) := by
    conv => lhs; rw [e2]
    rw [wt_app, wt_app]
  have w3 : wt (partsB x m i mid) = wt ((Txt.split x m).take i) + wt mid + wt ((Txt.split x m).drop (i + 1)) := by
    unfold partsB
    rw [wt_app, wt_app]
  have w4 : wt [(Txt.split x m)[i]] = (Txt.split x m)[i].length + 1 := rfl
  have w5 : wt (partsB x m i mid) ≤ x.length + 32 := by omega
  refine ⟨by rw [← wt_two]; exact w5, ?_, ?_⟩
  · have w6 := wt_join (c := c) (partsB x m i mid)
    rw [TL.join_eq, TL.len_tl, TL.tl_join, hm]
    split at w6 <;> omega
  · have e3 : (Txt.join m (partsB x m i mid)).cps.toList = TL.joinL [c] ((partsB x m i mid).map TL.tl) := by
      rw [TL.join_eq]
      show TL.tl _ = _
      rw [TL.tl_join, hm]
    intro k hk
    rw [e3] at hk
    refine joinL_all (Q := fun k => k < 200) hc _ (fun p hp k hk => ?_) k hk
    obtain ⟨y, hy, rfl⟩ := List.mem_map.mp hp
    have inS : y ∈ Txt.split x m → Chs y := fun h k hk => hx k (split_chars x hm y h k hk)
    unfold partsB at hy
    rcases List.mem_append.mp hy with h | h
    · rcases List.mem_append.mp h with h | h
      · exact inS (List.mem_of_mem_take h) k hk
      · exact hw y h k hk
    · exact inS (List.mem_of_mem_drop h) k hk
theorem cutD_to (ys : List Str) {i : Nat} (hi : i ≤ ys.length) : FD.cutD (ys.map PyData.str) none (some (i : Int)) = (ys.take i).map .str := by
  unfold FD.cutD
  rw [HT.sIx_none, HT.sIx_nat, List.length_map, Nat.min_eq_left hi, List.drop_zero, List.map_take]; rfl
theorem cutD_from (ys : List Str) {i : Nat} (hi : i ≤ ys.length) : FD.cutD (ys.map PyData.str) (some (i : Int)) none = (ys.drop i).map .str := by
  unfold FD.cutD
  rw [HT.sIx_none, HT.sIx_nat, List.length_map, Nat.min_eq_left hi, ← List.map_drop]
  exact List.take_of_length_le (by rw [List.length_map, List.length_drop]; exact Nat.le_refl _)
theorem strD_B (x m : Str) {i : Nat} (hi : i < (Txt.split x m).length) (mid : List Str) :
    FD.cutD ((Txt.split x m).map PyData.str) none (some (i : Int)) ++ mid.map .str ++ FD.cutD ((Txt.split x m).map PyData.str) (some ((i : Int) + 1)) none = (partsB x m i mid).map .str := by
  rw [show (i : Int) + 1 = ((i + 1 : Nat) : Int) from rfl, cutD_to _ (Nat.le_of_lt hi), cutD_from _ hi]
  unfold partsB
  rw [List.map_append, List.map_append]
abbrev preBent : List PyData → Prop := fun ds => ∃ x : Str, ds = [.str x] ∧ x.length ≤ 800 ∧ Chs x
abbrev postBent : List PyData → PyData → Prop := fun ds d => ∃ x y : Str, ds = [.str x] ∧ d = .str y ∧ y.length ≤ x.length + 32 ∧ Chs y
def wordsB : List Str := ["grain", "a", "b", "0", "1", "12", "00", "-1", "", "aa", FD.repS "1" 31, "a 3", FD.repS "1" 30]
theorem words_ok : ∀ w ∈ wordsB, wt [w] ≤ 32 ∧ ∀ c ∈ w.cps.toList, c < 200 := by decide +kernel
theorem signs_ok : ∀ c ∈ ("ab019 \ngrain-+_A" : Str).cps.toList, c < 200 := by decide +kernel
section
variable {P : Program} {w : World} {K : PySem.W.Frag} {mg : Str → Option Value} {base : Heap} {f : Addr} {fd : FuncData}
theorem ok_bent (F : L2.Fun K "_law_bent" "_law_bent" lBent f fd) (bi : Bi mg) (c1 : Cal P w K mg base 2 "_law_take" ["pile", "size"] (spP 1 preT postT))
    (c2 : Cal P w K mg base 3 "_law_pick" ["pile", "some"] (spP 1 (fun ds => ∃ xs : List PyData, ds = [.list xs] ∧ 1 ≤ xs.length ∧ xs.length ≤ 100) fun ds d => ∃ xs, ds = [.list xs] ∧ d ∈ xs)) :
    FnG P w K mg base 4 f fd ["pile", "text"] (spP 1 preBent postBent) := by
  refine fnP F sclBent (by simp) _ _ fun cdv A outer s H hg hr => ?_
  refine' ⟨_, ?h1, ?h2⟩
  case h1 =>
    have km : KMark K := ⟨⟩
    have nd : (["pile", "text", "signs", "words", "at", "sign", "way", "mark", "parts", "spot"] : List Str).Nodup := by decide +kernel
    have : (["pile", "text", "signs", "words", "at", "sign", "way", "mark", "parts", "spot"] : List Str)[0]? = some ("pile" : Str) := rfl
    have : (["pile", "text", "signs", "words", "at", "sign", "way", "mark", "parts", "spot"] : List Str)[1]? = some ("text" : Str) := rfl
    have : (["pile", "text", "signs", "words", "at", "sign", "way", "mark", "parts", "spot"] : List Str)[2]? = some ("signs" : Str) := rfl
    have : (["pile", "text", "signs", "words", "at", "sign", "way", "mark", "parts", "spot"] : List Str)[3]? = some ("words" : Str) := rfl
    have : (["pile", "text", "signs", "words", "at", "sign", "way", "mark", "parts", "spot"] : List Str)[4]? = some ("at" : Str) := rfl
    have : (["pile", "text", "signs", "words", "at", "sign", "way", "mark", "parts", "spot"] : List Str)[5]? = some ("sign" : Str) := rfl
    have : (["pile", "text", "signs", "words", "at", "sign", "way", "mark", "parts", "spot"] : List Str)[6]? = some ("way" : Str) := rfl
    have : (["pile", "text", "signs", "words", "at", "sign", "way", "mark", "parts", "spot"] : List Str)[7]? = some ("mark" : Str) := rfl
    have : (["pile", "text", "signs", "words", "at", "sign", "way", "mark", "parts", "spot"] : List Str)[8]? = some ("parts" : Str) := rfl
    have : (["pile", "text", "signs", "words", "at", "sign", "way", "mark", "parts", "spot"] : List Str)[9]? = some ("spot" : Str) := rfl
    fail "fTop"
  case h2 =>
    rintro p ds hl ⟨x, rfl, hx, hc⟩
    show EvS K _ [some (.pile p), some (.dat (.str x)), none, none, none, none, none, none, none, none] _
    have big : (2000 : Nat) ≤ sizeLine := by decide
    have xl : x.length ≤ sizeLine := by omega
    have g15 : ("ab019 \ngrain-+_A" : Str).length = 16 := by decide +kernel
    have one1 : ("1" : Str).length = 1 := by decide +kernel
    refine seq_cut (fun e1 => e1 = [some (.pile p), some (.dat (.str x)), some (.dat (.str "ab019 \ngrain-+_A")), none, none, none, none, none, none, none]) ?_ ?_
    · fail "z"
      rfl
    rintro e rfl
    refine seq_cut (fun e1 => e1 = [some (.pile p), some (.dat (.str x)), some (.dat (.str "ab019 \ngrain-+_A")), some (.dat (strD wordsB)), none, none, none, none, none, none]) ?_ ?_
    · fail "z"
      refine rd_repS one1 (by decide) (by decide) ?_
      fail "z"
      refine rd_repS one1 (by decide) (by decide) ?_
      fail "z"
      rfl
    rintro e rfl
    refine seq_cut (fun e1 => ∃ at' : Int, 0 ≤ at' ∧ at' ≤ x.length ∧ e1 = [some (.pile p), some (.dat (.str x)), some (.dat (.str "ab019 \ngrain-+_A")), some (.dat (strD wordsB)), some (.dat (.int at')), none, none, none, none, none]) ?_ ?_
    · fail "z"
      refine rc_lenS xl ?_
      fail "z"
      refine ⟨⟨_, rfl, by omega, by omega⟩, ?_⟩
      rintro y ⟨n', z, e, rfl, z0, z1⟩
      cases e
      exact eg_name ⟨z, z0, by omega, rfl⟩
    rintro e ⟨at', a0, a1, rfl⟩
    refine seq_cut (fun e1 => ∃ sg : Str, sg.length = 1 ∧ Chs sg ∧ e1 = [some (.pile p), some (.dat (.str x)), some (.dat (.str "ab019 \ngrain-+_A")), some (.dat (strD wordsB)), some (.dat (.int at')), some (.dat (.str sg)), none, none, none, none]) ?_ ?_
    · fail "z"
      refine rc_lenS (by rw [g15]; decide) ?_
      rw [g15]
      fail "z"
      refine ⟨⟨_, rfl, by decide, by decide⟩, ?_⟩
      rintro y ⟨n', z, e, rfl, z0, z1⟩
      cases e
      obtain ⟨j, rfl⟩ := Int.eq_ofNat_of_zero_le z0
      have jl : j < ("ab019 \ngrain-+_A" : Str).cps.toList.length := by
        rw [tl_len, g15]
        omega
      refine rd_ixS (c := ("ab019 \ngrain-+_A" : Str).cps.toList[j]) (by rw [g15]; decide) (atI_nat (List.getElem?_eq_getElem jl)) ?_
      exact eg_name ⟨_, rfl, (fun c hc => by
        obtain rfl := List.mem_singleton.mp hc
        exact signs_ok _ (List.getElem_mem jl)), rfl⟩
    rintro e ⟨sg, s1, s2, rfl⟩
    refine seq_cut (fun e1 => ∃ way : Int, 0 ≤ way ∧ way < 6 ∧ e1 = [some (.pile p), some (.dat (.str x)), some (.dat (.str "ab019 \ngrain-+_A")), some (.dat (strD wordsB)), some (.dat (.int at')), some (.dat (.str sg)), some (.dat (.int way)), none, none, none]) ?_ ?_
    · fail "z"
      refine ⟨⟨6, rfl, by decide, by decide⟩, ?_⟩
      rintro y ⟨n', z, e, rfl, z0, z1⟩
      cases e
      exact eg_name ⟨z, z0, z1, rfl⟩
    rintro e ⟨way, w0, w6, rfl⟩
    refine seq_cut (fun e1 => 3 ≤ way ∧ e1 = [some (.pile p), some (.dat (.str x)), some (.dat (.str "ab019 \ngrain-+_A")), some (.dat (strD wordsB)), some (.dat (.int at')), some (.dat (.str sg)), some (.dat (.int way)), none, none, none]) ?_ ?_
    · fail "z"
      · rename_i h
        have h3 : way < 3 := of_decide_eq_true h
        obtain ⟨dS, k, e1, e2, q1, q2, k0, k1⟩ : ∃ (dS : Str) (k : Int), L2.atI [PyData.str "", .str sg, .str sg] way = some (.str dS) ∧ L2.atI [PyData.int 1, .int 0, .int 1] way = some (.int k) ∧ dS.length ≤ 1 ∧ Chs dS ∧ 0 ≤ k ∧ k ≤ 1 := by
          have : way = 0 ∨ way = 1 ∨ way = 2 := by omega
          rcases this with rfl | rfl | rfl
          · exact ⟨"", 1, rfl, rfl, by decide +kernel, (fun c hc => by cases hc), by decide, by decide⟩
          · exact ⟨sg, 0, rfl, rfl, by omega, s2, by decide, by decide⟩
          · exact ⟨sg, 1, rfl, rfl, by omega, s2, by decide, by decide⟩
        have b := bent_cut (s := dS) (i := at') (j := at' + k) a0 (by omega) hc q2
        have l1 := cutS_length x none (some at')
        have l2 := cutS_length x (some (at' + k)) none
        refine rs_str xl ?_
        fail "z"
        refine rd_ixL e1 ?_
        refine rd_plusS (by omega) ?_
        fail "z"
        refine rd_ixL e2 ?_
        fail "z"
        refine rs_str xl ?_
        refine rd_plusS (by rw [len_app]; omega) ⟨rfl, x, _, rfl, rfl, ?_, b.2⟩
        have := b.1
        omega
      · rename_i h
        have h3 : ¬ way < 3 := of_decide_eq_false h
        exact ⟨by omega, rfl⟩
    rintro e ⟨w3, rfl⟩
    obtain ⟨m, c, em, hm, cl, ml⟩ : ∃ (m : Str) (c : Nat), L2.atI [PyData.str " ", .str "\n", .str "\n"] (way - 3) = some (.str m) ∧ TL.tl m = [c] ∧ c < 200 ∧ m.length = 1 := by
      have : way = 3 ∨ way = 4 ∨ way = 5 := by omega
      rcases this with rfl | rfl | rfl
      · exact ⟨" ", 32, rfl, by decide +kernel, by decide, by decide +kernel⟩
      · exact ⟨"\n", 10, rfl, by decide +kernel, by decide, by decide +kernel⟩
      · exact ⟨"\n", 10, rfl, by decide +kernel, by decide, by decide +kernel⟩
    refine seq_cut (fun e1 => e1 = [some (.pile p), some (.dat (.str x)), some (.dat (.str "ab019 \ngrain-+_A")), some (.dat (strD wordsB)), some (.dat (.int at')), some (.dat (.str sg)), some (.dat (.int way)), some (.dat (.str m)), none, none]) ?_ ?_
    · fail "z"
      refine rd_ixL em ?_
      exact eg_name rfl
    rintro e rfl
    refine seq_cut (fun e1 => e1 = [some (.pile p), some (.dat (.str x)), some (.dat (.str "ab019 \ngrain-+_A")), some (.dat (strD wordsB)), some (.dat (.int at')), some (.dat (.str sg)), some (.dat (.int way)), some (.dat (.str m)), some (.dat (strD (Txt.split x m))), none]) ?_ ?_
    · fail "z"
      exact ⟨by rw [ml]; rfl, by omega, eg_name rfl⟩
    rintro e rfl
    have few := split_few x hm
    have ne : 1 ≤ (Txt.split x m).length := by
      have := split_ne x m
      cases q : Txt.split x m with
      | nil => exact absurd q this
      | cons a b => exact Nat.succ_pos _
    refine seq_cut (fun e1 => ∃ i : Nat, i < (Txt.split x m).length ∧ e1 = [some (.pile p), some (.dat (.str x)), some (.dat (.str "ab019 \ngrain-+_A")), some (.dat (strD wordsB)), some (.dat (.int at')), some (.dat (.str sg)), some (.dat (.int way)), some (.dat (.str m)), some (.dat (strD (Txt.split x m))), some (.dat (.int (i : Int)))]) ?_ ?_
    · fail "z"
      rw [List.length_map]
      refine ⟨⟨_, rfl, by omega, by omega⟩, ?_⟩
      rintro y ⟨n', z, e, rfl, z0, z1⟩
      cases e
      obtain ⟨j, rfl⟩ := Int.eq_ofNat_of_zero_le z0
      exact eg_name ⟨j, by omega, rfl⟩
    rintro e ⟨i, hi, rfl⟩
    have k1 : (FD.cutD ((Txt.split x m).map PyData.str) none (some (i : Int))).length ≤ 900 := by
      rw [cutD_to _ (Nat.le_of_lt hi), List.length_map, List.length_take]; omega
    have k2 : (FD.cutD ((Txt.split x m).map PyData.str) (some ((i : Int) + 1)) none).length ≤ 900 := by
      rw [show (i : Int) + 1 = ((i + 1 : Nat) : Int) from rfl, cutD_from _ hi, List.length_map, List.length_drop]; omega
    fail "z"
    · have b := bent_parts hm cl hc hi (mid := []) (by decide) (fun w h => by cases h)
      have e := strD_B x m hi []
      rw [List.map_nil, List.append_nil] at e
      refine rd_plusL (by omega) ?_
      rw [e]
      exact ⟨_, rfl, by rw [ml]; omega, rfl, x, _, rfl, rfl, b.2.1, b.2.2⟩
    · refine ⟨⟨_, rfl, by decide, by decide⟩, ?_⟩
      rintro d ⟨xs, e, hd⟩
      cases e
      obtain ⟨w, hw, rfl⟩ := List.mem_map.mp hd
      obtain ⟨q1, q2⟩ := words_ok w hw
      have b := bent_parts hm cl hc hi (mid := [w]) q1 (fun v h => by
        obtain rfl := List.mem_singleton.mp h
        exact q2)
      have e := strD_B x m hi [w]
      refine ea_nil ⟨by show 1 ≤ sizeLine; omega, rd_plusL (by show _ + 1 ≤ sizeLine; omega) ?_⟩
      fail "z"
      refine rd_plusL (by rw [List.length_append]; show _ + 1 + _ ≤ sizeLine; omega) ?_
      rw [show FD.cutD ((Txt.split x m).map PyData.str) none (some (i : Int)) ++ [PyData.str w] ++ FD.cutD ((Txt.split x m).map PyData.str) (some ((i : Int) + 1)) none = (partsB x m i [w]).map .str from e]
      exact ⟨_, rfl, by rw [ml]; omega, rfl, x, _, rfl, rfl, b.2.1, b.2.2⟩
end


abbrev lLaw : Stmt := tp 51
theorem sclLaw : FnScope ["script", "first", "second", "k", "pile", "row", "kept", "text", "turn", "bent", "odd"] ["script"] (defScope lLaw) := ⟨rfl, rfl, rfl, by decide +kernel, rfl, by decide +kernel, by decide +kernel⟩
/-! ### the law -/
/-- what two calls hand back, that both caught something -/
theorem es_caught2 {K : PySem.W.Frag} {env : En} {O : Outs} {ta tb : TE} {i j : Nat} {C : Addr} {pre : List PyData → Prop} {post : List PyData → Int → Prop}
    (h : EvE K ta env fun e1 d => e1 = env ∧ pre [d] ∧ ∀ n, post [d] n → EvE K tb env fun e2 f => e2 = env ∧ pre [f] ∧ ∀ m, post [f] m → O.nx ((env.set i (some (slN' C n))).set j (some (slN' C m)))) :
    EvS K (tPar i j (tCons (tCB (callOf (spCau C pre post)) (tCons ta tNil)) (tCons (tCB (callOf (spCau C pre post)) (tCons tb tNil)) tNil))) env O := fun B σ G H D I a b c d f =>
  h B σ G H _ I fun v G1 H1 e1 d1 ⟨e, hp, k⟩ x1 I1 r1 => by
    subst e
    refine ⟨G1, [d1], I1.exH, .cons r1 .nil, hp, fun a2 G2 H2 n pn x2 xh2 xH2 fr2 er2 => ?_⟩
    have I2 := I1.went x2 xh2 xH2 fr2
    refine (k n pn) B σ G2 H2 _ I2 fun u G3 H3 e3 d3 ⟨e, hp3, k3⟩ x3 I3 r3 => ?_
    subst e
    refine ⟨G3, [d3], I3.exH, .cons r3 .nil, hp3, fun a4 G4 H4 m pm x4 xh4 xH4 fr4 er4 => ?_⟩
    have I4 := I3.went x4 xh4 xH4 fr4
    exact ⟨_, _, rfl, a _ _ _ _ (k3 m pm) ((x1.trans x2).trans (x3.trans x4)) ((I4.setF (i := i) (F := errN C n) (v := .ref a2) (errN_m C n) (errN_m C n (x3.trans x4) er2)).setF (i := j) (F := errN C m) (v := .ref a4) (errN_m C m) er4)⟩
def oddS1 : List Str := ["", "\n", "grain", "grain 0", "grain 1", "grain 1\n", "grain 01", "grain 1 ", "Grain 1", "grain 1\na"]
def oddS2 : List Str := ["grain 1\na 0", "grain 1\na 2\nb 1", "grain 1\nab 2", "grain 1\na -1", "grain 1\na 1\na 1"]
def oddS3 : List Str := ["grain 1\na  1", "a 1\ngrain 1"]
def oddS4 : List Str := ["grain " ++ FD.repS "9" 30, "grain " ++ FD.repS "9" 31, "grain 0\na 2\nb 1", "grain 1\na 00", "grain 1\n\na 1"]
def oddS : List Str := oddS1 ++ oddS2 ++ oddS3 ++ oddS4
theorem odd_ok : ∀ x ∈ oddS, x.length ≤ 900 ∧ ∀ c ∈ x.cps.toList, c < 200 := by decide +kernel
theorem bad_x : readF "x" = .bad 1 := by kernel_rfl
theorem bad_gx : readF "grain 1\nx" = .bad 2 := by kernel_rfl
theorem row_txt {g now : Int} {es : List PyData} (g1 : 1 ≤ g) (g2 : g ≤ 4) (hn : now ≤ 4000) (hl : es.length ≤ 8) (h : EvsM now es) : (rowTxt g es).length ≤ 200 ∧ Chs (rowTxt g es) := by
  have gl : (numS g).length ≤ 6 := numS_len (by omega) (by omega)
  have e6 : (Str.ofString "grain ").length = 6 := by decide +kernel
  have nd : ∀ i : Int, 0 ≤ i → Chs (numS i) := fun i h0 c hc => by
    obtain ⟨n, rfl⟩ := Int.eq_ofNat_of_zero_le h0
    have hc' : c ∈ TL.tl (numS (n : Int)) := hc
    rw [numS_tl] at hc'
    have := TL.numL_digits n c hc'
    omega
  have cg : Chs "grain " := by
    have : ∀ c ∈ ("grain " : Str).cps.toList, c < 200 := by decide +kernel
    exact this
  have cs : Chs sp1 := by
    have : ∀ c ∈ sp1.cps.toList, c < 200 := by decide +kernel
    exact this
  have all : ∀ p ∈ (Str.empty ++ "grain " ++ numS g) :: es.map evTxt, p.length ≤ 12 ∧ Chs p := fun p hp => by
    rcases List.mem_cons.mp hp with rfl | hp
    · rw [emp_app]
      refine ⟨?_, chs_app cg (nd g (by omega))⟩
      rw [len_app]
      show (Str.ofString "grain ").length + _ ≤ 12
      omega
    · obtain ⟨d, hd, rfl⟩ := List.mem_map.mp hp
      obtain ⟨c, t, rfl, h1, h2, h3, h4⟩ := h.all d hd
      show (Str.empty ++ (⟨#[c]⟩ : Str) ++ sp1 ++ numS t).length ≤ 12 ∧ Chs (Str.empty ++ (⟨#[c]⟩ : Str) ++ sp1 ++ numS t)
      rw [emp_app]
      have := numS_len (i := t) h3 (by omega)
      refine ⟨?_, chs_app (chs_app (fun k hk => ?_) cs) (nd t h3)⟩
      · rw [len_app, len_app]
        show 1 + 1 + _ ≤ 12
        omega
      · have := List.mem_singleton.mp (show k ∈ [c] from hk)
        omega
  have e : (rowTxt g es) = Str.join nl ((Str.empty ++ "grain " ++ numS g) :: es.map evTxt) := by
    unfold rowTxt
    rw [TL.join_eq]
  refine ⟨?_, ?_⟩
  · have w := wt_join (c := 10) ((Str.empty ++ "grain " ++ numS g) :: es.map evTxt)
    rw [if_neg (by simp)] at w
    rw [e, TL.len_tl, TL.tl_join, nl_tl]
    have h1 := StrLaws.sumLen_le (B := 12) ((Str.empty ++ "grain " ++ numS g) :: es.map evTxt) fun y hy => (all y hy).1
    have h2 := wt_two ((Str.empty ++ "grain " ++ numS g) :: es.map evTxt)
    rw [List.length_cons, List.length_map] at h1 h2
    omega
  · have e3 : (rowTxt g es).cps.toList = TL.joinL [10] (((Str.empty ++ "grain " ++ numS g) :: es.map evTxt).map TL.tl) := by
      rw [e]
      show TL.tl _ = _
      rw [TL.tl_join, nl_tl]
    intro k hk
    rw [e3] at hk
    refine joinL_all (Q := fun k => k < 200) (by decide) _ (fun p hp k hk => ?_) k hk
    obtain ⟨y, hy, rfl⟩ := List.mem_map.mp hp
    exact (all y hy).2 k hk
/-- what the law wants of a made row -/
structure LawOk (R : PyData) (T : Str) : Prop where
  txt : fText [R] = .str T
  pre : preRT [R]
  ln : T.length ≤ 200
  ch : Chs T
  rd : readF T = .row R
  rp : ReprOk R
  tup : ∃ ds, R = .tuple ds
theorem law_row_ok {R : PyData} (h : RowM R) : ∃ T, LawOk R T := by
  obtain ⟨g, now, es, rfl, g1, g2, hl, hn, hE⟩ := h.ex
  obtain ⟨l, c⟩ := row_txt g1 g2 hn hl hE
  have rd := read_written g1 g2 hn hE
  have tk : textOk (rowTxt g es) := show (rowTxt g es).length ≤ 900 by omega
  obtain ⟨ds, e, ro⟩ := row_repr tk rd
  refine ⟨rowTxt g es, rfl, ?_, l, c, rd, by rw [e]; exact ro, _, rfl⟩
  have ev : ∀ d ∈ es, EvM 4000 d := fun d hd => (hE.all d hd).up hn
  refine ⟨g, es, rfl, ?_, ?_, by omega, fun a t hm => ?_, by omega⟩
  · show smA [.int g, .tuple es] = true
    refine smA_all fun d hd => ?_
    rcases List.mem_cons.mp hd with rfl | hd
    · rfl
    · obtain rfl := List.mem_singleton.mp hd
      show sm (.tuple es) = true
      have : smA es = true := smA_all fun d hd => by
        obtain ⟨c, t, rfl, _⟩ := ev d hd
        simp [sm, smA, Str.length]
      have l2 : es.length ≤ 1000 := by omega
      simp [sm, this, l2]
  · show (isNum 1 (.int g) && (es.all isEv && nondec (timesOf es))) = true
    have hEv : es.all isEv = true := List.all_eq_true.mpr fun d hd => by
      obtain ⟨c, t, rfl, h1, h2, h3, h4⟩ := ev d hd
      show (isLet (.str ⟨#[c]⟩) && isNum 0 (.int t)) = true
      rw [show isLet (.str ⟨#[c]⟩) = true from decide_eq_true ⟨h1, h2⟩, show isNum 0 (.int t) = true from decide_eq_true h3]
      rfl
    rw [hEv, hE.ord, show isNum 1 (.int g) = true from decide_eq_true g1]; rfl
  · obtain ⟨c, t', e, h1, h2, h3, h4⟩ := ev _ hm
    injection e with e
    injection e with _ e
    injection e with e _
    injection e with e
    subst e
    omega
section
variable {P : Program} {w : World} {K : PySem.W.Frag} {mg : Str → Option Value} {base : Heap} {f : Addr} {fd : FuncData} {C : Addr}
theorem ok_law (F : L2.Fun K "law" "law" lLaw f fd) (bi : Bi mg) (xf : XfC K C) (nl' : PySem.W.findIn K (.ref C) "line" = some none)
    (c1 : Cal P w K mg base 2 "_law_pile" ["script", "k"] (spN K)) (c2 : Cal P w K mg base 3 "_law_row" ["pile", "letters", "m", "size"] (spP 3 preMR postMR))
    (c3 : Cal P w K mg base 2 "_law_take" ["pile", "size"] (spP 1 preT postT)) (c4 : Cal P w K mg base 1 "_law_text" ["row"] (spF 1 preRT fText)) (c5 : Cal P w K mg base 5 "row_text" ["row"] (spF 1 preRT fText))
    (c6 : CalX P w K mg base 5 "read_row" ["text"] (spXN C 1 preX postRead badRead)) (c7 : Cal P w K mg base 6 "_law_caught" ["text"] (spCau C preBad badRead))
    (c8 : Cal P w K mg base 1 "_law_word_of" ["error"] (spWN C fun _ d => d = .str "text")) (c9 : Cal P w K mg base 6 "_law_both" ["text"] (spF 1 preXL fun _ => .bool true)) (c0 : Cal P w K mg base 4 "_law_bent" ["pile", "text"] (spP 1 preBent postBent)) :
    FnG P w K mg base 7 f fd ["script"] (spL K) := by
  refine fnL F sclLaw rfl fun cdv A outer s H hg hr => ?_
  refine' ⟨_, ?h1, ?h2⟩
  case h1 =>
    refine with_tk fun tk => ?_
    have km : KMark K := ⟨⟩
    have nd : (["script", "first", "second", "k", "pile", "row", "kept", "text", "turn", "bent", "odd"] : List Str).Nodup := by decide +kernel
    have : (["script", "first", "second", "k", "pile", "row", "kept", "text", "turn", "bent", "odd"] : List Str)[0]? = some ("script" : Str) := rfl
    have : (["script", "first", "second", "k", "pile", "row", "kept", "text", "turn", "bent", "odd"] : List Str)[1]? = some ("first" : Str) := rfl
    have : (["script", "first", "second", "k", "pile", "row", "kept", "text", "turn", "bent", "odd"] : List Str)[2]? = some ("second" : Str) := rfl
    have : (["script", "first", "second", "k", "pile", "row", "kept", "text", "turn", "bent", "odd"] : List Str)[3]? = some ("k" : Str) := rfl
    have : (["script", "first", "second", "k", "pile", "row", "kept", "text", "turn", "bent", "odd"] : List Str)[4]? = some ("pile" : Str) := rfl
    have : (["script", "first", "second", "k", "pile", "row", "kept", "text", "turn", "bent", "odd"] : List Str)[5]? = some ("row" : Str) := rfl
    have : (["script", "first", "second", "k", "pile", "row", "kept", "text", "turn", "bent", "odd"] : List Str)[6]? = some ("kept" : Str) := rfl
    have : (["script", "first", "second", "k", "pile", "row", "kept", "text", "turn", "bent", "odd"] : List Str)[7]? = some ("text" : Str) := rfl
    have : (["script", "first", "second", "k", "pile", "row", "kept", "text", "turn", "bent", "odd"] : List Str)[8]? = some ("turn" : Str) := rfl
    have : (["script", "first", "second", "k", "pile", "row", "kept", "text", "turn", "bent", "odd"] : List Str)[9]? = some ("bent" : Str) := rfl
    have : (["script", "first", "second", "k", "pile", "row", "kept", "text", "turn", "bent", "odd"] : List Str)[10]? = some ("odd" : Str) := rfl
    fail "fTop"
  case h2 =>
    intro p ns hl
    have big : (100 : Nat) ≤ sizeLine := by decide
    have one1 : (1 : Nat) ≤ sizeLine := by decide
    have two2 : (2 : Nat) ≤ sizeLine := by decide
    have three3 : (3 : Nat) ≤ sizeLine := by decide
    show EvS K _ [some (.script p ns), none, none, none, none, none, none, none, none, none, none] _
    have cut : ∀ {t u : TS} {e : En} (M : En → Prop), EvS K t e { nx := M, rt := fun _ d => d = .bool true } → (∀ e1, M e1 → EvS K u e1 { nx := fun _ => False, rt := fun _ d => d = .bool true }) →
        EvS K (tSeq t u) e { nx := fun _ => False, rt := fun _ d => d = .bool true } := fun M h1 h2 => es_seq (h1.imp h2 (fun _ _ z => z) (fun _ z => z.elim) (fun _ z => z.elim) (fun _ _ z => z))
    refine cut (fun e => e = [some (.script p ns), some (slN' C 1), some (slN' C 2), none, none, none, none, none, none, none, none]) ?_ ?_
    · refine es_caught2 (ev_str ⟨rfl, ⟨_, 1, rfl, show (_ : Nat) ≤ 900 by decide +kernel, bad_x⟩, fun n hn => ?_⟩)
      obtain ⟨x', e, hb⟩ := hn
      cases e
      rw [bad_x] at hb
      injection hb with hb
      subst hb
      refine ev_str ⟨rfl, ⟨_, 2, rfl, show (_ : Nat) ≤ 900 by decide +kernel, bad_gx⟩, fun n hn => ?_⟩
      obtain ⟨x', e, hb⟩ := hn
      cases e
      rw [bad_gx] at hb
      injection hb with hb
      subst hb
      rfl
    rintro e rfl
    refine cut (fun e => e = [some (.script p ns), some (slN' C 1), some (slN' C 2), none, none, none, none, none, none, none, none]) ?_ ?_
    · refine es_if (eb_or (ev_test (ev_op (ev_lst (ea_cons (FD.ev_callWN rfl fun d hd => ?_))))))
      subst hd
      refine ea_cons (FD.ev_callWN rfl fun d hd => ?_)
      subst hd
      refine ea_nil ⟨two2, ev_lst (ea_cons (ev_str (ea_cons (ev_str (ea_nil ⟨two2, ?_⟩)))))⟩
      refine rd_neA (by decide +kernel) (by decide +kernel) ⟨false, congrArg PyData.bool (by decide +kernel), fun _ => ?_, (fun h => by cases h)⟩
      refine ev_test (ev_op (ev_lst (ea_cons (FD.ev_line rfl xf nl' (ea_cons (FD.ev_line rfl xf nl' (ea_nil ⟨two2, ?_⟩)))))))
      refine ev_lst (ea_cons (ev_int (ea_cons (ev_int (ea_nil ⟨two2, ?_⟩)))))
      exact rd_neA (by decide +kernel) (by decide +kernel) ⟨false, congrArg PyData.bool (by decide +kernel), (fun h => by cases h), fun _ => es_next rfl⟩
    rintro e rfl
    refine cut (fun e => ∃ v1 v2 v3 v4 v5 v6 v7 v8 v9 v10, e = [some (.script p ns), v1, v2, v3, v4, v5, v6, v7, v8, v9, v10]) ?_ ?_
    · refine es_for (ei_rng1 ?_)
      fail "z"
      refine ⟨(by omega), ?_⟩
      refine ⟨fun _ e => ∃ v1 v2 v3 v4 v5 v6 v7 v8 v9 v10, e = [some (.script p ns), v1, v2, v3, v4, v5, v6, v7, v8, v9, v10], ⟨_, _, none, none, none, none, none, none, none, none, rfl⟩, ?_, fun e h => h⟩
      rintro i d e hd ⟨v1, v2, v3, v4, v5, v6, v7, v8, v9, v10, rfl⟩
      obtain ⟨hm, rfl⟩ := nums_get hd
      refine eg_name (es_seq (es_pile rfl hl (ev_var rfl ⟨rfl, _, rfl, by omega⟩) fun q => ?_))
      show EvS K _ [some (.script p ns), v1, v2, some (.dat (.int (0 + (i : Int)))), some (.pile q), v5, v6, v7, v8, v9, v10] _
      refine seq_cut (fun e1 => ∃ R, RowM R ∧ e1 = [some (.script p ns), v1, v2, some (.dat (.int (0 + (i : Int)))), some (.pile q), some (.dat R), v6, v7, v8, v9, v10]) ?_ ?_
      · fail "z"
        refine ⟨⟨6, rfl, by decide, by decide⟩, ?_⟩
        rintro y ⟨n', z, e, rfl, z0, z1⟩
        cases e
        fail "z"
        refine ⟨⟨_, 3, z, rfl, rfl, by omega, by omega, z0, by omega⟩, ?_⟩
        rintro y hy
        exact eg_name ⟨y, hy, rfl⟩
      rintro e ⟨R, hR, rfl⟩
      obtain ⟨T, ok⟩ := law_row_ok hR
      obtain ⟨ds, rfl⟩ := ok.tup
      have ro := ok.rp
      have tok : textOk T := show T.length ≤ 900 by have := ok.ln; omega
      have tln := ok.ln
      refine seq_cut (fun e1 => e1 = [some (.script p ns), v1, v2, some (.dat (.int (0 + (i : Int)))), some (.pile q), some (.dat (.tuple ds)), some (.dat (.str (PyData.shown (.tuple ds)))), v7, v8, v9, v10]) ?_ ?_
      · fail "z"
        refine rc_reprT ro ?_
        exact eg_name rfl
      rintro e rfl
      refine seq_cut (fun e1 => e1 = [some (.script p ns), v1, v2, some (.dat (.int (0 + (i : Int)))), some (.pile q), some (.dat (.tuple ds)), some (.dat (.str (PyData.shown (.tuple ds)))), some (.dat (.str T)), v8, v9, v10]) ?_ ?_
      · fail "z"
        refine ⟨ok.pre, ?_⟩
        rw [ok.txt]
        exact eg_name rfl
      rintro e rfl
      refine seq_cut (fun e1 => e1 = [some (.script p ns), v1, v2, some (.dat (.int (0 + (i : Int)))), some (.pile q), some (.dat (.tuple ds)), some (.dat (.str (PyData.shown (.tuple ds)))), some (.dat (.str T)), v8, v9, v10]) ?_ ?_
      · fail "z"
        refine ⟨ok.pre, ?_⟩
        rw [ok.txt]
        refine ev_var rfl (rd_neS1 ⟨_, rfl, fun _ => ?_, fun h => by cases h⟩)
        refine eb_or (ev_test (ev_op (ev_cb (ea_cons (FD.ev_callXN (ea_cons (ev_var rfl (ea_nil ⟨rfl, ⟨T, rfl, tok⟩, fun d pd => ?_, fun m pm => ?_⟩))))))))
        · obtain ⟨x', e, hrd⟩ := pd
          cases e
          rw [ok.rd] at hrd
          injection hrd with hrd
          subst hrd
          refine ea_nil (rc_reprT ro (ev_var rfl (rd_neS1 ⟨_, rfl, fun _ => ?_, fun h => by cases h⟩)))
          exact ev_test (ev_op (ev_cb (ea_cons (ev_var rfl (ea_nil (rc_reprT ro (ev_var rfl (rd_neS1 ⟨_, rfl, (fun h => by cases h), fun _ => es_next rfl⟩))))))))
        · obtain ⟨x', e, hrd⟩ := pm
          cases e
          rw [ok.rd] at hrd
          cases hrd
      rintro e rfl
      refine es_for (ei_rng1 ?_)
      fail "z"
      refine ⟨⟨by decide, by decide⟩, ?_⟩
      refine ⟨fun _ e => ∃ v1 v2 v8 v9 v10, e = [some (.script p ns), v1, v2, some (.dat (.int (0 + (i : Int)))), some (.pile q), some (.dat (.tuple ds)), some (.dat (.str (PyData.shown (.tuple ds)))), some (.dat (.str T)), v8, v9, v10], ⟨_, _, _, _, _, rfl⟩, ?_, ?_⟩
      · rintro i2 d e hd ⟨w1, w2, w8, w9, w10, rfl⟩
        obtain ⟨hm2, rfl⟩ := nums_get hd
        refine eg_name ?_
        show EvS K _ [some (.script p ns), w1, w2, some (.dat (.int (0 + (i : Int)))), some (.pile q), some (.dat (.tuple ds)), some (.dat (.str (PyData.shown (.tuple ds)))), some (.dat (.str T)), some (.dat (.int (0 + (i2 : Int)))), w9, w10] _
        refine seq_cut (fun e1 => ∃ y : Str, y.length ≤ 300 ∧ Chs y ∧ e1 = [some (.script p ns), w1, w2, some (.dat (.int (0 + (i : Int)))), some (.pile q), some (.dat (.tuple ds)), some (.dat (.str (PyData.shown (.tuple ds)))), some (.dat (.str T)), some (.dat (.int (0 + (i2 : Int)))), some (.dat (.str y)), w10]) ?_ ?_
        · fail "z"
          refine ⟨⟨T, rfl, by omega, ok.ch⟩, ?_⟩
          rintro d ⟨x', y, e, rfl, yl, yc⟩
          cases e
          exact eg_name ⟨y, by omega, yc, rfl⟩
        rintro e ⟨y, yl, yc, rfl⟩
        refine seq_cut (fun e1 => ∃ y : Str, y.length ≤ 400 ∧ Chs y ∧ e1 = [some (.script p ns), w1, w2, some (.dat (.int (0 + (i : Int)))), some (.pile q), some (.dat (.tuple ds)), some (.dat (.str (PyData.shown (.tuple ds)))), some (.dat (.str T)), some (.dat (.int (0 + (i2 : Int)))), some (.dat (.str y)), w10]) ?_ ?_
        · fail "z"
          · refine ⟨⟨y, rfl, by omega, yc⟩, ?_⟩
            rintro d ⟨x', y', e, rfl, yl', yc'⟩
            cases e
            exact eg_name ⟨y', by omega, yc', rfl⟩
          · exact ⟨y, by omega, yc, rfl⟩
        rintro e ⟨y, yl, yc, rfl⟩
        fail "z"
        refine ⟨⟨T, rfl, tok, ok.ch⟩, true, rfl, fun _ => ?_, fun h => by cases h⟩
        fail "z"
        exact ⟨⟨y, rfl, show y.length ≤ 900 by omega, yc⟩, true, rfl, (fun h => by cases h), fun _ => es_next ⟨_, _, _, _, _, rfl⟩⟩
      · rintro e ⟨w1, w2, w8, w9, w10, rfl⟩
        exact ⟨_, _, _, _, _, _, _, _, _, _, rfl⟩
    rintro e ⟨v1, v2, v3, v4, v5, v6, v7, v8, v9, v10, rfl⟩
    refine cut (fun e => e = [some (.script p ns), v1, v2, v3, v4, v5, v6, v7, v8, v9, some (.dat (strD oddS1))]) ?_ ?_
    · fail "z"
      rfl
    rintro e rfl
    refine cut (fun e => e = [some (.script p ns), v1, v2, v3, v4, v5, v6, v7, v8, v9, some (.dat (strD (oddS1 ++ oddS2)))]) ?_ ?_
    · fail "z"
      rfl
    rintro e rfl
    refine cut (fun e => e = [some (.script p ns), v1, v2, v3, v4, v5, v6, v7, v8, v9, some (.dat (strD (oddS1 ++ oddS2 ++ oddS3)))]) ?_ ?_
    · fail "z"
      rfl
    rintro e rfl
    refine cut (fun e => e = [some (.script p ns), v1, v2, v3, v4, v5, v6, v7, v8, v9, some (.dat (strD oddS))]) ?_ ?_
    · fail "z"
      refine rd_repS (by decide +kernel) (by decide) (by decide) ?_
      refine rd_plusS (by rw [FD.repS_len]; decide +kernel) ?_
      fail "z"
      refine rd_repS (by decide +kernel) (by decide) (by decide) ?_
      refine rd_plusS (by rw [FD.repS_len]; decide +kernel) ?_
      fail "z"
      rfl
    rintro e rfl
    refine FD.es_forget 7 ?_
    show EvS K _ [some (.script p ns), v1, v2, v3, v4, v5, v6, none, v8, v9, some (.dat (strD oddS))] _
    fail "z"
    refine ev_filter (fun _ => false) (ei_list (ev_var rfl ⟨oddS.map .str, rfl, by decide +kernel, by show 7 < 11; decide, fun d hd => ?_, ?_⟩))
    · obtain ⟨x, hx, rfl⟩ := List.mem_map.mp hd
      obtain ⟨q1, q2⟩ := odd_ok x hx
      fail "z"
      exact ⟨⟨x, rfl, q1, q2⟩, true, rfl, rfl, rfl⟩
    · rw [show (oddS.map PyData.str).filter (fun _ => false) = [] from List.filter_eq_nil_iff.mpr (by simp)]
      refine ev_lst (ea_nil ⟨Nat.zero_le _, ?_⟩)
      exact rd_eqA (by decide +kernel) (by decide +kernel) (congrArg PyData.bool (by decide +kernel))
end


/-! ### NoText(line) -/
abbrev sInit : Stmt := (C8.clsBody (tp 15)).getD 0 (.Pass ⟨0, 0, 0, 0⟩)
theorem err_ok {P : Program} {w : World} {K : PySem.W.Frag} {mg : Str → Option Value} {base : Heap} {C cc cda fI : Addr} {oc ct kV doc pm : Value} {od an : Option Addr} {osl : Array (Option Value)}
    (hg : mg "NoText" = some (.ref C)) (ho : OexC K C) (hf : PySem.W.findIn K (.ref C) "__init__" = some (some (.ref fI))) (ht : PySem.W.typeIn K (.ref fI) = some (.type "function"))
    (lk : K.lookup fI = some ⟨oc, od, .func (PySem.W.fnX "__init__" "NoText.__init__" (defArgs sInit) (defBody sInit) (defScope sInit) [("__class__", cc)] .none kV doc pm an (.ref cda) ct), osl⟩)
    (S : FD.SupC P K C cc cda fI (defBody sInit) "__init__" "NoText.__init__" (defArgs sInit) (defScope sInit)) (hms : mg "super" = none) (hno : PySem.W.findIn K (.ref C) "line" = some none) : FD.ErrN P w K mg base "NoText" C := by
  have main : ∀ CX : CXT, FnOk P w K mg base CX 1 fI (PySem.W.fnX "__init__" "NoText.__init__" (defArgs sInit) (defBody sInit) (defScope sInit) [("__class__", cc)] .none kV doc pm an (.ref cda) ct) FD.nSup (FD.spSup C) := by
    have q := FD.fn_sup (w := w) (mg := mg) (base := base) (te := fun σ H Q => tJs [tC (.str "line "), tFmt (tVar 1), tC (.str " cannot stand")] Str.empty σ H fun out H1 => Q (.str out) H1) S hms rfl rfl rfl rfl rfl rfl rfl rfl rfl (by decide +kernel) hno ?hpe ?hte ?hst ?hev ?hex
    case hpe =>
      intro X hs hN
      exact FD.pe_fs3 pe_str (pe_fmt (pe_var (i := 1) (by rw [hN]; rfl) (.inl (by rw [hs]; rfl)))) pe_str
    case hte =>
      intro n v H Q hn h
      have b1 : n.natAbs < 10 ^ 302 := Nat.lt_of_lt_of_le (Nat.lt_of_lt_of_le (Nat.lt_log2_self (n := n.natAbs)) (Nat.pow_le_pow_right (by decide) (show n.natAbs.log2 + 1 ≤ 1000 by omega))) (by decide)
      have z : (toString n).length ≤ 302 + 1 := int_text_length_le10 (k := 302) (by decide) b1
      have z2 : (Str.ofString (toString n)).length ≤ 303 := by rw [PySem.ofString_length]; omega
      have l1 : (Str.ofString "line ").length = 5 := by decide +kernel
      have l2 : (Str.ofString " cannot stand").length = 13 := by decide +kernel
      have l0 : Str.empty.length = 0 := rfl
      have big : (400 : Nat) ≤ sizeLine := by decide
      refine ⟨_, rfl, ?_, ⟨.int n, rfl, .inr ⟨n, rfl, by omega, _, rfl, ?_, ⟨_, rfl, ?_, h _⟩⟩⟩⟩
      · rw [len_app]; omega
      · rw [len_app, len_app]; omega
      · rw [len_app, len_app, len_app]; omega
    case hst =>
      intro env hs
      rfl
    case hev =>
      intro env hs
      exact ⟨_, rfl⟩
    case hex =>
      intro env hs
      rfl
    obtain ⟨oc', od', dV, kV', doc', pm', an', ct', osl', lk', q⟩ := q
    have e := lk.symm.trans lk'
    injection e with e
    injection e with _ _ e _
    injection e with e
    intro CX
    rw [e]
    exact q CX
  exact ⟨hg, ho, fI, _, hf, ht, .all fun us hl => match us, hl with | [_, _], _ => rfl, main⟩


/-! ### what the top has written -/
theorem all_mk {l : PySem.W.OpenLaw} {w : World} {K : PySem.W.Frag} {h : Heap} {mg : Str → Option Value} {fa f1 f2 f3 f4 f5 f6 f7 f8 f9 f10 f11 f12 f13 f14 f15 f16 f17 f18 f19 f20 f21 f22 f23 f24 f25 f26 f27 f28 f29 f30 f31 : Addr} (X : K.In h) (G : h.Ns mainGlobals mg) (hfa : mg "law" = some (.ref fa))
    {od1 an1 od2 an2 od3 an3 od4 an4 od5 an5 od6 an6 od7 an7 od8 an8 od9 an9 od10 an10 od11 an11 od12 an12 od13 an13 od14 an14 od15 an15 od16 an16 od17 an17 od18 an18 od19 an19 od20 an20 od21 an21 od22 an22 od23 an23 od24 an24 od25 an25 od26 an26 od27 an27 od28 an28 od29 an29 od30 an30 od31 an31 : Option Addr} {sl1 sl2 sl3 sl4 sl5 sl6 sl7 sl8 sl9 sl10 sl11 sl12 sl13 sl14 sl15 sl16 sl17 sl18 sl19 sl20 sl21 sl22 sl23 sl24 sl25 sl26 sl27 sl28 sl29 sl30 sl31 : Array (Option Value)} {oc1 kV1 dc1 pm1 cd1 ct1 oc2 kV2 dc2 pm2 cd2 ct2 oc3 kV3 dc3 pm3 cd3 ct3 oc4 kV4 dc4 pm4 cd4 ct4 oc5 kV5 dc5 pm5 cd5 ct5 oc6 kV6 dc6 pm6 cd6 ct6 oc7 kV7 dc7 pm7 cd7 ct7 oc8 kV8 dc8 pm8 cd8 ct8 oc9 kV9 dc9 pm9 cd9 ct9 oc10 kV10 dc10 pm10 cd10 ct10 oc11 kV11 dc11 pm11 cd11 ct11 oc12 kV12 dc12 pm12 cd12 ct12 oc13 kV13 dc13 pm13 cd13 ct13 oc14 kV14 dc14 pm14 cd14 ct14 oc15 kV15 dc15 pm15 cd15 ct15 oc16 kV16 dc16 pm16 cd16 ct16 oc17 kV17 dc17 pm17 cd17 ct17 oc18 kV18 dc18 pm18 cd18 ct18 oc19 kV19 dc19 pm19 cd19 ct19 oc20 kV20 dc20 pm20 cd20 ct20 oc21 kV21 dc21 pm21 cd21 ct21 oc22 kV22 dc22 pm22 cd22 ct22 oc23 kV23 dc23 pm23 cd23 ct23 oc24 kV24 dc24 pm24 cd24 ct24 oc25 kV25 dc25 pm25 cd25 ct25 oc26 kV26 dc26 pm26 cd26 ct26 oc27 kV27 dc27 pm27 cd27 ct27 oc28 kV28 dc28 pm28 cd28 ct28 oc29 kV29 dc29 pm29 cd29 ct29 oc30 kV30 dc30 pm30 cd30 ct30 oc31 kV31 dc31 pm31 cd31 ct31 : Value} {eNoRow eNoMachine eNoNumber eNoLetter eNoLetters eNoBound eNoLook eNoCount eNoMost eNoMachines eNoTold eNoGrain eNoWait eNoText eSinceError : Addr}
    (a1 : PySem.W.nsIn K mainGlobals "_law_mixed" = some (some (.ref f1))) (l1 : K.lookup f1 = some ⟨oc1, od1, .func (PySem.W.fnOf "_law_mixed" "_law_mixed" (defArgs sMix) (defBody sMix) (defScope sMix) .none kV1 dc1 pm1 an1 cd1 ct1), sl1⟩) (c1 : PySem.W.codeIn K cd1 "_law_mixed" = true) (k1 : PySem.W.keepIn K (.ref f1) = true)
    (a2 : PySem.W.nsIn K mainGlobals "_law_pile" = some (some (.ref f2))) (l2 : K.lookup f2 = some ⟨oc2, od2, .func (PySem.W.fnOf "_law_pile" "_law_pile" (defArgs sPile) (defBody sPile) (defScope sPile) .none kV2 dc2 pm2 an2 cd2 ct2), sl2⟩) (c2 : PySem.W.codeIn K cd2 "_law_pile" = true) (k2 : PySem.W.keepIn K (.ref f2) = true)
    (a3 : PySem.W.nsIn K mainGlobals "_law_take" = some (some (.ref f3))) (l3 : K.lookup f3 = some ⟨oc3, od3, .func (PySem.W.fnOf "_law_take" "_law_take" (defArgs sTake) (defBody sTake) (defScope sTake) .none kV3 dc3 pm3 an3 cd3 ct3), sl3⟩) (c3 : PySem.W.codeIn K cd3 "_law_take" = true) (k3 : PySem.W.keepIn K (.ref f3) = true)
    (a4 : PySem.W.nsIn K mainGlobals "_law_row" = some (some (.ref f4))) (l4 : K.lookup f4 = some ⟨oc4, od4, .func (PySem.W.fnOf "_law_row" "_law_row" (defArgs sMkRow) (defBody sMkRow) (defScope sMkRow) .none kV4 dc4 pm4 an4 cd4 ct4), sl4⟩) (c4 : PySem.W.codeIn K cd4 "_law_row" = true) (k4 : PySem.W.keepIn K (.ref f4) = true)
    (a5 : PySem.W.nsIn K mainGlobals "_law_text" = some (some (.ref f5))) (l5 : K.lookup f5 = some ⟨oc5, od5, .func (PySem.W.fnOf "_law_text" "_law_text" (defArgs lTxt) (defBody lTxt) (defScope lTxt) .none kV5 dc5 pm5 an5 cd5 ct5), sl5⟩) (c5 : PySem.W.codeIn K cd5 "_law_text" = true) (k5 : PySem.W.keepIn K (.ref f5) = true)
    (a6 : PySem.W.nsIn K mainGlobals "is_tuple" = some (some (.ref f6))) (l6 : K.lookup f6 = some ⟨oc6, od6, .func (PySem.W.fnOf "is_tuple" "is_tuple" (defArgs sTup) (defBody sTup) (defScope sTup) .none kV6 dc6 pm6 an6 cd6 ct6), sl6⟩) (c6 : PySem.W.codeIn K cd6 "is_tuple" = true) (k6 : PySem.W.keepIn K (.ref f6) = true)
    (a7 : PySem.W.nsIn K mainGlobals "is_letter" = some (some (.ref f7))) (l7 : K.lookup f7 = some ⟨oc7, od7, .func (PySem.W.fnOf "is_letter" "is_letter" (defArgs sLet) (defBody sLet) (defScope sLet) .none kV7 dc7 pm7 an7 cd7 ct7), sl7⟩) (c7 : PySem.W.codeIn K cd7 "is_letter" = true) (k7 : PySem.W.keepIn K (.ref f7) = true)
    (a8 : PySem.W.nsIn K mainGlobals "is_number" = some (some (.ref f8))) (l8 : K.lookup f8 = some ⟨oc8, od8, .func (PySem.W.fnOf "is_number" "is_number" (defArgs sNum) (defBody sNum) (defScope sNum) .none kV8 dc8 pm8 an8 cd8 ct8), sl8⟩) (c8 : PySem.W.codeIn K cd8 "is_number" = true) (k8 : PySem.W.keepIn K (.ref f8) = true)
    (a9 : PySem.W.nsIn K mainGlobals "is_event" = some (some (.ref f9))) (l9 : K.lookup f9 = some ⟨oc9, od9, .func (PySem.W.fnOf "is_event" "is_event" (defArgs sEvt) (defBody sEvt) (defScope sEvt) .none kV9 dc9 pm9 an9 cd9 ct9), sl9⟩) (c9 : PySem.W.codeIn K cd9 "is_event" = true) (k9 : PySem.W.keepIn K (.ref f9) = true)
    (a10 : PySem.W.nsIn K mainGlobals "is_row" = some (some (.ref f10))) (l10 : K.lookup f10 = some ⟨oc10, od10, .func (PySem.W.fnOf "is_row" "is_row" (defArgs sRow) (defBody sRow) (defScope sRow) .none kV10 dc10 pm10 an10 cd10 ct10), sl10⟩) (c10 : PySem.W.codeIn K cd10 "is_row" = true) (k10 : PySem.W.keepIn K (.ref f10) = true)
    (a11 : PySem.W.nsIn K mainGlobals "check_row" = some (some (.ref f11))) (l11 : K.lookup f11 = some ⟨oc11, od11, .func (PySem.W.fnOf "check_row" "check_row" (defArgs sChk) (defBody sChk) (defScope sChk) .none kV11 dc11 pm11 an11 cd11 ct11), sl11⟩) (c11 : PySem.W.codeIn K cd11 "check_row" = true) (k11 : PySem.W.keepIn K (.ref f11) = true)
    (a12 : PySem.W.nsIn K mainGlobals "row_text" = some (some (.ref f12))) (l12 : K.lookup f12 = some ⟨oc12, od12, .func (PySem.W.fnOf "row_text" "row_text" (defArgs sText) (defBody sText) (defScope sText) .none kV12 dc12 pm12 an12 cd12 ct12), sl12⟩) (c12 : PySem.W.codeIn K cd12 "row_text" = true) (k12 : PySem.W.keepIn K (.ref f12) = true)
    (a13 : PySem.W.nsIn K mainGlobals "lines_of" = some (some (.ref f13))) (l13 : K.lookup f13 = some ⟨oc13, od13, .func (PySem.W.fnOf "lines_of" "lines_of" (defArgs sLines) (defBody sLines) (defScope sLines) .none kV13 dc13 pm13 an13 cd13 ct13), sl13⟩) (c13 : PySem.W.codeIn K cd13 "lines_of" = true) (k13 : PySem.W.keepIn K (.ref f13) = true)
    (a14 : PySem.W.nsIn K mainGlobals "check_parts" = some (some (.ref f14))) (l14 : K.lookup f14 = some ⟨oc14, od14, .func (PySem.W.fnOf "check_parts" "check_parts" (defArgs sParts) (defBody sParts) (defScope sParts) .none kV14 dc14 pm14 an14 cd14 ct14), sl14⟩) (c14 : PySem.W.codeIn K cd14 "check_parts" = true) (k14 : PySem.W.keepIn K (.ref f14) = true)
    (a15 : PySem.W.nsIn K mainGlobals "read_number" = some (some (.ref f15))) (l15 : K.lookup f15 = some ⟨oc15, od15, .func (PySem.W.fnOf "read_number" "read_number" (defArgs sNumb) (defBody sNumb) (defScope sNumb) .none kV15 dc15 pm15 an15 cd15 ct15), sl15⟩) (c15 : PySem.W.codeIn K cd15 "read_number" = true) (k15 : PySem.W.keepIn K (.ref f15) = true)
    (a16 : PySem.W.nsIn K mainGlobals "read_event" = some (some (.ref f16))) (l16 : K.lookup f16 = some ⟨oc16, od16, .func (PySem.W.fnOf "read_event" "read_event" (defArgs sEvent) (defBody sEvent) (defScope sEvent) .none kV16 dc16 pm16 an16 cd16 ct16), sl16⟩) (c16 : PySem.W.codeIn K cd16 "read_event" = true) (k16 : PySem.W.keepIn K (.ref f16) = true)
    (a17 : PySem.W.nsIn K mainGlobals "read_numbers" = some (some (.ref f17))) (l17 : K.lookup f17 = some ⟨oc17, od17, .func (PySem.W.fnOf "read_numbers" "read_numbers" (defArgs sNumbs) (defBody sNumbs) (defScope sNumbs) .none kV17 dc17 pm17 an17 cd17 ct17), sl17⟩) (c17 : PySem.W.codeIn K cd17 "read_numbers" = true) (k17 : PySem.W.keepIn K (.ref f17) = true)
    (a18 : PySem.W.nsIn K mainGlobals "read_count" = some (some (.ref f18))) (l18 : K.lookup f18 = some ⟨oc18, od18, .func (PySem.W.fnOf "read_count" "read_count" (defArgs sCount) (defBody sCount) (defScope sCount) .none kV18 dc18 pm18 an18 cd18 ct18), sl18⟩) (c18 : PySem.W.codeIn K cd18 "read_count" = true) (k18 : PySem.W.keepIn K (.ref f18) = true)
    (a19 : PySem.W.nsIn K mainGlobals "read_row" = some (some (.ref f19))) (l19 : K.lookup f19 = some ⟨oc19, od19, .func (PySem.W.fnOf "read_row" "read_row" (defArgs sRead) (defBody sRead) (defScope sRead) .none kV19 dc19 pm19 an19 cd19 ct19), sl19⟩) (c19 : PySem.W.codeIn K cd19 "read_row" = true) (k19 : PySem.W.keepIn K (.ref f19) = true)
    (a20 : PySem.W.nsIn K mainGlobals "_law_caught" = some (some (.ref f20))) (l20 : K.lookup f20 = some ⟨oc20, od20, .func (PySem.W.fnOf "_law_caught" "_law_caught" (defArgs lCaught) (defBody lCaught) (defScope lCaught) .none kV20 dc20 pm20 an20 cd20 ct20), sl20⟩) (c20 : PySem.W.codeIn K cd20 "_law_caught" = true) (k20 : PySem.W.keepIn K (.ref f20) = true)
    (a21 : PySem.W.nsIn K mainGlobals "_law_word_of" = some (some (.ref f21))) (l21 : K.lookup f21 = some ⟨oc21, od21, .func (PySem.W.fnOf "_law_word_of" "_law_word_of" (defArgs eWord) (defBody eWord) (defScope eWord) .none kV21 dc21 pm21 an21 cd21 ct21), sl21⟩) (c21 : PySem.W.codeIn K cd21 "_law_word_of" = true) (k21 : PySem.W.keepIn K (.ref f21) = true)
    (a22 : PySem.W.nsIn K mainGlobals "_law_number_of" = some (some (.ref f22))) (l22 : K.lookup f22 = some ⟨oc22, od22, .func (PySem.W.fnOf "_law_number_of" "_law_number_of" (defArgs lNum) (defBody lNum) (defScope lNum) .none kV22 dc22 pm22 an22 cd22 ct22), sl22⟩) (c22 : PySem.W.codeIn K cd22 "_law_number_of" = true) (k22 : PySem.W.keepIn K (.ref f22) = true)
    (a23 : PySem.W.nsIn K mainGlobals "_law_is_letter" = some (some (.ref f23))) (l23 : K.lookup f23 = some ⟨oc23, od23, .func (PySem.W.fnOf "_law_is_letter" "_law_is_letter" (defArgs sLetL) (defBody sLetL) (defScope sLetL) .none kV23 dc23 pm23 an23 cd23 ct23), sl23⟩) (c23 : PySem.W.codeIn K cd23 "_law_is_letter" = true) (k23 : PySem.W.keepIn K (.ref f23) = true)
    (a24 : PySem.W.nsIn K mainGlobals "_law_whole" = some (some (.ref f24))) (l24 : K.lookup f24 = some ⟨oc24, od24, .func (PySem.W.fnOf "_law_whole" "_law_whole" (defArgs sWhole) (defBody sWhole) (defScope sWhole) .none kV24 dc24 pm24 an24 cd24 ct24), sl24⟩) (c24 : PySem.W.codeIn K cd24 "_law_whole" = true) (k24 : PySem.W.keepIn K (.ref f24) = true)
    (a25 : PySem.W.nsIn K mainGlobals "_law_is_from" = some (some (.ref f25))) (l25 : K.lookup f25 = some ⟨oc25, od25, .func (PySem.W.fnOf "_law_is_from" "_law_is_from" (defArgs sFrom) (defBody sFrom) (defScope sFrom) .none kV25 dc25 pm25 an25 cd25 ct25), sl25⟩) (c25 : PySem.W.codeIn K cd25 "_law_is_from" = true) (k25 : PySem.W.keepIn K (.ref f25) = true)
    (a26 : PySem.W.nsIn K mainGlobals "_law_is_row" = some (some (.ref f26))) (l26 : K.lookup f26 = some ⟨oc26, od26, .func (PySem.W.fnOf "_law_is_row" "_law_is_row" (defArgs sRowL) (defBody sRowL) (defScope sRowL) .none kV26 dc26 pm26 an26 cd26 ct26), sl26⟩) (c26 : PySem.W.codeIn K cd26 "_law_is_row" = true) (k26 : PySem.W.keepIn K (.ref f26) = true)
    (a27 : PySem.W.nsIn K mainGlobals "_law_due" = some (some (.ref f27))) (l27 : K.lookup f27 = some ⟨oc27, od27, .func (PySem.W.fnOf "_law_due" "_law_due" (defArgs lDue) (defBody lDue) (defScope lDue) .none kV27 dc27 pm27 an27 cd27 ct27), sl27⟩) (c27 : PySem.W.codeIn K cd27 "_law_due" = true) (k27 : PySem.W.keepIn K (.ref f27) = true)
    (a28 : PySem.W.nsIn K mainGlobals "_law_both" = some (some (.ref f28))) (l28 : K.lookup f28 = some ⟨oc28, od28, .func (PySem.W.fnOf "_law_both" "_law_both" (defArgs lBoth) (defBody lBoth) (defScope lBoth) .none kV28 dc28 pm28 an28 cd28 ct28), sl28⟩) (c28 : PySem.W.codeIn K cd28 "_law_both" = true) (k28 : PySem.W.keepIn K (.ref f28) = true)
    (a29 : PySem.W.nsIn K mainGlobals "_law_pick" = some (some (.ref f29))) (l29 : K.lookup f29 = some ⟨oc29, od29, .func (PySem.W.fnOf "_law_pick" "_law_pick" (defArgs lPick) (defBody lPick) (defScope lPick) .none kV29 dc29 pm29 an29 cd29 ct29), sl29⟩) (c29 : PySem.W.codeIn K cd29 "_law_pick" = true) (k29 : PySem.W.keepIn K (.ref f29) = true)
    (a30 : PySem.W.nsIn K mainGlobals "_law_bent" = some (some (.ref f30))) (l30 : K.lookup f30 = some ⟨oc30, od30, .func (PySem.W.fnOf "_law_bent" "_law_bent" (defArgs lBent) (defBody lBent) (defScope lBent) .none kV30 dc30 pm30 an30 cd30 ct30), sl30⟩) (c30 : PySem.W.codeIn K cd30 "_law_bent" = true) (k30 : PySem.W.keepIn K (.ref f30) = true)
    (a31 : PySem.W.nsIn K mainGlobals "law" = some (some (.ref f31))) (l31 : K.lookup f31 = some ⟨oc31, od31, .func (PySem.W.fnOf "law" "law" (defArgs lLaw) (defBody lLaw) (defScope lLaw) .none kV31 dc31 pm31 an31 cd31 ct31), sl31⟩) (c31 : PySem.W.codeIn K cd31 "law" = true) (k31 : PySem.W.keepIn K (.ref f31) = true)
    {tkM : Tok} (aM : PySem.W.nsIn K mainGlobals "MOST_FIGURES" = some (some (.int 30 tkM)))
    (nNoRow : PySem.W.nsIn K mainGlobals "NoRow" = some (some (.ref eNoRow)))
    (nNoMachine : PySem.W.nsIn K mainGlobals "NoMachine" = some (some (.ref eNoMachine)))
    (nNoNumber : PySem.W.nsIn K mainGlobals "NoNumber" = some (some (.ref eNoNumber)))
    (nNoLetter : PySem.W.nsIn K mainGlobals "NoLetter" = some (some (.ref eNoLetter)))
    (nNoLetters : PySem.W.nsIn K mainGlobals "NoLetters" = some (some (.ref eNoLetters)))
    (nNoBound : PySem.W.nsIn K mainGlobals "NoBound" = some (some (.ref eNoBound)))
    (nNoLook : PySem.W.nsIn K mainGlobals "NoLook" = some (some (.ref eNoLook)))
    (nNoCount : PySem.W.nsIn K mainGlobals "NoCount" = some (some (.ref eNoCount)))
    (nNoMost : PySem.W.nsIn K mainGlobals "NoMost" = some (some (.ref eNoMost)))
    (nNoMachines : PySem.W.nsIn K mainGlobals "NoMachines" = some (some (.ref eNoMachines)))
    (nNoTold : PySem.W.nsIn K mainGlobals "NoTold" = some (some (.ref eNoTold)))
    (nNoGrain : PySem.W.nsIn K mainGlobals "NoGrain" = some (some (.ref eNoGrain)))
    (nNoWait : PySem.W.nsIn K mainGlobals "NoWait" = some (some (.ref eNoWait)))
    (nNoText : PySem.W.nsIn K mainGlobals "NoText" = some (some (.ref eNoText)))
    (nSinceError : PySem.W.nsIn K mainGlobals "SinceError" = some (some (.ref eSinceError)))
    (xhgNoText : PySem.W.findIn K (.ref eNoText) "__getattribute__" = some (some (.builtin "BaseException.__getattribute__")))
    (xhkNoText : PySem.W.findIn K (.ref eNoText) "__getattr__" = some none)
    (xhsNoText : PySem.W.subIn K (.ref eNoText) (.type "BaseException") = some true)
    (xhdNoText : PySem.W.hasDictIn K eNoText = true)
    (xhaNoText : PySem.W.findIn K (.ref eNoText) "__class__" = some (some (.builtin "object.__class__")))
    (xhmNoText : PySem.W.mroIn K eNoText (.type "object") = some true)
    (xkNoText : PySem.W.keepIn K (.ref eNoText) = true)
    (xtNoText : PySem.W.typeIn K (.ref eNoText) = some (.type "type"))
    (xmNoText : PySem.W.exmOne K (.ref eNoText) (.ref eSinceError) = some true)
    (xvNoText : PySem.W.kitOne K (.ref eNoText) (.type "ValueError") = some true)
    (yNoTextNoRow : PySem.W.kitOne K (.ref eNoText) (.ref eNoRow) = some false)
    (yNoTextNoMachine : PySem.W.kitOne K (.ref eNoText) (.ref eNoMachine) = some false)
    (yNoTextNoNumber : PySem.W.kitOne K (.ref eNoText) (.ref eNoNumber) = some false)
    (yNoTextNoLetter : PySem.W.kitOne K (.ref eNoText) (.ref eNoLetter) = some false)
    (yNoTextNoLetters : PySem.W.kitOne K (.ref eNoText) (.ref eNoLetters) = some false)
    (yNoTextNoBound : PySem.W.kitOne K (.ref eNoText) (.ref eNoBound) = some false)
    (yNoTextNoLook : PySem.W.kitOne K (.ref eNoText) (.ref eNoLook) = some false)
    (yNoTextNoCount : PySem.W.kitOne K (.ref eNoText) (.ref eNoCount) = some false)
    (yNoTextNoMost : PySem.W.kitOne K (.ref eNoText) (.ref eNoMost) = some false)
    (yNoTextNoMachines : PySem.W.kitOne K (.ref eNoText) (.ref eNoMachines) = some false)
    (yNoTextNoTold : PySem.W.kitOne K (.ref eNoText) (.ref eNoTold) = some false)
    (yNoTextNoGrain : PySem.W.kitOne K (.ref eNoText) (.ref eNoGrain) = some false)
    (yNoTextNoWait : PySem.W.kitOne K (.ref eNoText) (.ref eNoWait) = some false)
    (yNoTextNoText : PySem.W.kitOne K (.ref eNoText) (.ref eNoText) = some true)
    (yNoTextSinceError : PySem.W.kitOne K (.ref eNoText) (.ref eSinceError) = some true)
    {nmC qC NC bsC bmC snC subC abC colC ddC k0C k1C k2C k3C k5C ocI odI kVI dcI pmI anI ctI slI ccl cld csl ccl2 cdd vsI ccs fileI tfI}
    (xo1 : K.lookup eNoText = some (excClassObj nmC qC eNoText NC bsC bmC true snC subC abC colC ddC k0C k1C k2C k3C k5C "ValueError.__new__"))
    (xo2 : PySem.HandSPX.refsVE bmC = true)
    (xo3 : PySem.W.findIn K (.ref eNoText) "__setattr__" = some (some (.builtin "object.__setattr__")))
    (xi1 : PySem.W.findIn K (.ref eNoText) "__init__" = some (some (.ref fI)))
    (xi2 : PySem.W.typeIn K (.ref fI) = some (.type "function"))
    (xi3 : K.lookup fI = some ⟨ocI, odI, .func (PySem.W.fnX "__init__" "NoText.__init__" (defArgs sInit) (defBody sInit) (defScope sInit) [("__class__", ccI)] .none kVI dcI pmI anI (.ref cdaI) ctI), slI⟩)
    (xs1 : PySem.W.subIn K (.ref eNoText) (.type "ValueError") = some true)
    (xs2 : PySem.W.ks_superIn K eNoText eNoText "__init__" = some (some (.builtin "ValueError.__init__")))
    (xs3 : PySem.W.mroIn K eNoText (.ref eNoText) = some true)
    (xs4 : PySem.W.nsIn K PySem.cStatics "thirdparty.any" = some none)
    (xs5 : K.lookup ccI = some ⟨ccl, cld, .cell (some (.ref eNoText)), csl⟩)
    (xs6 : K.lookup cdaI = some ⟨ccl2, cdd, .fields vsI, ccs⟩)
    (xs7 : vsI[2]? = some (Value.str fileI tfI))
    (xs8 : ((l.prog.main.file : Str) == fileI) = true)
    (xs9 : PySem.W.codeIn K (.ref cdaI) "NoText.__init__" = true)
    (xs0 : (l.prog.main.scope.names.lookup ("super" : Str)).isSome = false)
    (xln : PySem.W.findIn K (.ref eNoText) "line" = some none)
    (xhn : PySem.W.specialIn K (.builtin "object.__class__") "__get__" = some (some (.builtin "getset_descriptor.__get__")))
    (xht : PySem.W.takesIn K (.builtin "object.__class__") = some true)
    (xnv : PySem.W.kitOne K (.type "NoneType") (.type "ValueError") = some false)
    (xnNoRow : PySem.W.kitOne K (.type "NoneType") (.ref eNoRow) = some false)
    (xnNoMachine : PySem.W.kitOne K (.type "NoneType") (.ref eNoMachine) = some false)
    (xnNoNumber : PySem.W.kitOne K (.type "NoneType") (.ref eNoNumber) = some false)
    (xnNoLetter : PySem.W.kitOne K (.type "NoneType") (.ref eNoLetter) = some false)
    (xnNoLetters : PySem.W.kitOne K (.type "NoneType") (.ref eNoLetters) = some false)
    (xnNoBound : PySem.W.kitOne K (.type "NoneType") (.ref eNoBound) = some false)
    (xnNoLook : PySem.W.kitOne K (.type "NoneType") (.ref eNoLook) = some false)
    (xnNoCount : PySem.W.kitOne K (.type "NoneType") (.ref eNoCount) = some false)
    (xnNoMost : PySem.W.kitOne K (.type "NoneType") (.ref eNoMost) = some false)
    (xnNoMachines : PySem.W.kitOne K (.type "NoneType") (.ref eNoMachines) = some false)
    (xnNoTold : PySem.W.kitOne K (.type "NoneType") (.ref eNoTold) = some false)
    (xnNoGrain : PySem.W.kitOne K (.type "NoneType") (.ref eNoGrain) = some false)
    (xnNoWait : PySem.W.kitOne K (.type "NoneType") (.ref eNoWait) = some false)
    (xnNoText : PySem.W.kitOne K (.type "NoneType") (.ref eNoText) = some false)
    (xnSinceError : PySem.W.kitOne K (.type "NoneType") (.ref eSinceError) = some false)
    (z1 : PySem.W.nsIn K mainGlobals "len" = some none) (z2 : PySem.W.nsIn K mainGlobals "isinstance" = some none) (z3 : PySem.W.nsIn K mainGlobals "int" = some none) (z4 : PySem.W.nsIn K mainGlobals "bool" = some none) (z5 : PySem.W.nsIn K mainGlobals "str" = some none) (z6 : PySem.W.nsIn K mainGlobals "tuple" = some none) (z7 : PySem.W.nsIn K mainGlobals "list" = some none) (z8 : PySem.W.nsIn K mainGlobals "all" = some none) (z9 : PySem.W.nsIn K mainGlobals "repr" = some none) (z10 : PySem.W.nsIn K mainGlobals "sum" = some none) (z11 : PySem.W.nsIn K mainGlobals "min" = some none) (z12 : PySem.W.nsIn K mainGlobals "max" = some none) (z13 : PySem.W.nsIn K mainGlobals "range" = some none) (z14 : PySem.W.nsIn K mainGlobals "set" = some none) (z15 : PySem.W.nsIn K mainGlobals "sorted" = some none) (z16 : PySem.W.nsIn K mainGlobals "divmod" = some none) (z17 : PySem.W.nsIn K mainGlobals "ValueError" = some none) (z18 : PySem.W.nsIn K mainGlobals "zip" = some none) (z19 : PySem.W.nsIn K mainGlobals "enumerate" = some none) (z20 : PySem.W.nsIn K mainGlobals "super" = some none) :
    ∃ fd : FuncData, (∀ (s : Shared) (v : Value), BindsTo s fd ⟨[v], []⟩ [("script", v)]) ∧ ∀ base : Heap, K.In base → base.Ns mainGlobals mg → FnG l.prog w K mg base 7 fa fd ["script"] (spL K) := by
  have e := hfa.symm.trans (PySem.W.mg_of X G a31)
  cases e
  obtain ⟨A, rfl, rfl, rfl, rfl, rfl, rfl, rfl, rfl, rfl, rfl, rfl, rfl, rfl, rfl, rfl⟩ : ∃ A : Str → Addr, eNoRow = A "NoRow" ∧ eNoMachine = A "NoMachine" ∧ eNoNumber = A "NoNumber" ∧ eNoLetter = A "NoLetter" ∧ eNoLetters = A "NoLetters" ∧ eNoBound = A "NoBound" ∧ eNoLook = A "NoLook" ∧ eNoCount = A "NoCount" ∧ eNoMost = A "NoMost" ∧ eNoMachines = A "NoMachines" ∧ eNoTold = A "NoTold" ∧ eNoGrain = A "NoGrain" ∧ eNoWait = A "NoWait" ∧ eNoText = A "NoText" ∧ eSinceError = A "SinceError" := by
    refine ⟨fun nm => if nm = "NoRow" then eNoRow else if nm = "NoMachine" then eNoMachine else if nm = "NoNumber" then eNoNumber else if nm = "NoLetter" then eNoLetter else if nm = "NoLetters" then eNoLetters else if nm = "NoBound" then eNoBound else if nm = "NoLook" then eNoLook else if nm = "NoCount" then eNoCount else if nm = "NoMost" then eNoMost else if nm = "NoMachines" then eNoMachines else if nm = "NoTold" then eNoTold else if nm = "NoGrain" then eNoGrain else if nm = "NoWait" then eNoWait else if nm = "NoText" then eNoText else eSinceError, ?_, ?_, ?_, ?_, ?_, ?_, ?_, ?_, ?_, ?_, ?_, ?_, ?_, ?_, ?_⟩
    all_goals kernel_rfl
  have bi : Bi mg := ⟨PySem.W.mg_none_of X G z1, PySem.W.mg_none_of X G z2, PySem.W.mg_none_of X G z3, PySem.W.mg_none_of X G z4, PySem.W.mg_none_of X G z5, PySem.W.mg_none_of X G z6, PySem.W.mg_none_of X G z7, PySem.W.mg_none_of X G z8, PySem.W.mg_none_of X G z9, PySem.W.mg_none_of X G z10, PySem.W.mg_none_of X G z11, PySem.W.mg_none_of X G z12, PySem.W.mg_none_of X G z13⟩
  have bx : FD.Bi2 mg := ⟨PySem.W.mg_none_of X G z14, PySem.W.mg_none_of X G z15⟩
  have hM := PySem.W.mg_of X G aM
  have hE := PySem.W.mg_none_of X G z19
  have bd : FD.Bi3 mg := ⟨PySem.W.mg_none_of X G z16⟩
  have ecNoText : ExcC K (A "NoText") := ⟨xhgNoText, xhkNoText, xhsNoText, xhdNoText, xhaNoText, xhn, xht, xhmNoText⟩
  have ES : ErrsT K mg A := by
    refine ⟨?_, PySem.W.mg_none_of X G z17, PySem.W.mg_none_of X G z18, ecNoText, ?_, xvNoText⟩
    · intro nm hm
      simp only [List.mem_cons, List.not_mem_nil, or_false] at hm
      rcases hm with rfl | rfl | rfl | rfl | rfl | rfl | rfl | rfl | rfl | rfl | rfl | rfl | rfl | rfl | rfl
      · exact PySem.W.mg_of X G nNoRow
      · exact PySem.W.mg_of X G nNoMachine
      · exact PySem.W.mg_of X G nNoNumber
      · exact PySem.W.mg_of X G nNoLetter
      · exact PySem.W.mg_of X G nNoLetters
      · exact PySem.W.mg_of X G nNoBound
      · exact PySem.W.mg_of X G nNoLook
      · exact PySem.W.mg_of X G nNoCount
      · exact PySem.W.mg_of X G nNoMost
      · exact PySem.W.mg_of X G nNoMachines
      · exact PySem.W.mg_of X G nNoTold
      · exact PySem.W.mg_of X G nNoGrain
      · exact PySem.W.mg_of X G nNoWait
      · exact PySem.W.mg_of X G nNoText
      · exact PySem.W.mg_of X G nSinceError
    · intro nm hm
      simp only [List.mem_cons, List.not_mem_nil, or_false] at hm
      rcases hm with rfl | rfl | rfl | rfl | rfl | rfl | rfl | rfl | rfl | rfl | rfl | rfl | rfl | rfl | rfl
      · exact yNoTextNoRow.trans (by decide +kernel)
      · exact yNoTextNoMachine.trans (by decide +kernel)
      · exact yNoTextNoNumber.trans (by decide +kernel)
      · exact yNoTextNoLetter.trans (by decide +kernel)
      · exact yNoTextNoLetters.trans (by decide +kernel)
      · exact yNoTextNoBound.trans (by decide +kernel)
      · exact yNoTextNoLook.trans (by decide +kernel)
      · exact yNoTextNoCount.trans (by decide +kernel)
      · exact yNoTextNoMost.trans (by decide +kernel)
      · exact yNoTextNoMachines.trans (by decide +kernel)
      · exact yNoTextNoTold.trans (by decide +kernel)
      · exact yNoTextNoGrain.trans (by decide +kernel)
      · exact yNoTextNoWait.trans (by decide +kernel)
      · exact yNoTextNoText.trans (by decide +kernel)
      · exact yNoTextSinceError.trans (by decide +kernel)
  have XF : XfC K (A "NoText") := ⟨xhgNoText, xhkNoText, xhsNoText, xhdNoText⟩
  have OX : OexC K (A "NoText") := ⟨⟨_, _, _, _, _, _, _, _, _, _, _, _, _, _, _, xo1, xo2⟩, xo3, xhsNoText, xtNoText, xkNoText⟩
  have F1 := fun_mk (st := sMix) l1 c1 k1
  have F2 := fun_mk (st := sPile) l2 c2 k2
  have F3 := fun_mk (st := sTake) l3 c3 k3
  have F4 := fun_mk (st := sMkRow) l4 c4 k4
  have F5 := fun_mk (st := lTxt) l5 c5 k5
  have F6 := fun_mk (st := sTup) l6 c6 k6
  have F7 := fun_mk (st := sLet) l7 c7 k7
  have F8 := fun_mk (st := sNum) l8 c8 k8
  have F9 := fun_mk (st := sEvt) l9 c9 k9
  have F10 := fun_mk (st := sRow) l10 c10 k10
  have F11 := fun_mk (st := sChk) l11 c11 k11
  have F12 := fun_mk (st := sText) l12 c12 k12
  have F13 := fun_mk (st := sLines) l13 c13 k13
  have F14 := fun_mk (st := sParts) l14 c14 k14
  have F15 := fun_mk (st := sNumb) l15 c15 k15
  have F16 := fun_mk (st := sEvent) l16 c16 k16
  have F17 := fun_mk (st := sNumbs) l17 c17 k17
  have F18 := fun_mk (st := sCount) l18 c18 k18
  have F19 := fun_mk (st := sRead) l19 c19 k19
  have F20 := fun_mk (st := lCaught) l20 c20 k20
  have F21 := fun_mk (st := eWord) l21 c21 k21
  have F22 := fun_mk (st := lNum) l22 c22 k22
  have F23 := fun_mk (st := sLetL) l23 c23 k23
  have F24 := fun_mk (st := sWhole) l24 c24 k24
  have F25 := fun_mk (st := sFrom) l25 c25 k25
  have F26 := fun_mk (st := sRowL) l26 c26 k26
  have F27 := fun_mk (st := lDue) l27 c27 k27
  have F28 := fun_mk (st := lBoth) l28 c28 k28
  have F29 := fun_mk (st := lPick) l29 c29 k29
  have F30 := fun_mk (st := lBent) l30 c30 k30
  have F31 := fun_mk (st := lLaw) l31 c31 k31
  have b1 := F1.binds (ps := ["cell", "k"]) fun _ _ _ _ _ _ us hl => match us, hl with | [_, _], _ => rfl
  have b2 := F2.binds (ps := ["script", "k"]) fun _ _ _ _ _ _ us hl => match us, hl with | [_, _], _ => rfl
  have b3 := F3.binds (ps := ["pile", "size"]) fun _ _ _ _ _ _ us hl => match us, hl with | [_, _], _ => rfl
  have b4 := F4.binds (ps := ["pile", "letters", "m", "size"]) fun _ _ _ _ _ _ us hl => match us, hl with | [_, _, _, _], _ => rfl
  have b5 := F5.binds (ps := ["row"]) fun _ _ _ _ _ _ us hl => match us, hl with | [_], _ => rfl
  have b6 := F6.binds (ps := ["thing", "size"]) fun _ _ _ _ _ _ us hl => match us, hl with | [_, _], _ => rfl
  have b7 := F7.binds (ps := ["thing"]) fun _ _ _ _ _ _ us hl => match us, hl with | [_], _ => rfl
  have b8 := F8.binds (ps := ["thing", "least"]) fun _ _ _ _ _ _ us hl => match us, hl with | [_, _], _ => rfl
  have b9 := F9.binds (ps := ["thing"]) fun _ _ _ _ _ _ us hl => match us, hl with | [_], _ => rfl
  have b10 := F10.binds (ps := ["thing"]) fun _ _ _ _ _ _ us hl => match us, hl with | [_], _ => rfl
  have b11 := F11.binds (ps := ["row"]) fun _ _ _ _ _ _ us hl => match us, hl with | [_], _ => rfl
  have b12 := F12.binds (ps := ["row"]) fun _ _ _ _ _ _ us hl => match us, hl with | [_], _ => rfl
  have b13 := F13.binds (ps := ["text"]) fun _ _ _ _ _ _ us hl => match us, hl with | [_], _ => rfl
  have b14 := F14.binds (ps := ["parts"]) fun _ _ _ _ _ _ us hl => match us, hl with | [_], _ => rfl
  have b15 := F15.binds (ps := ["word"]) fun _ _ _ _ _ _ us hl => match us, hl with | [_], _ => rfl
  have b16 := F16.binds (ps := ["words"]) fun _ _ _ _ _ _ us hl => match us, hl with | [_], _ => rfl
  have b17 := F17.binds (ps := ["words", "first"]) fun _ _ _ _ _ _ us hl => match us, hl with | [_, _], _ => rfl
  have b18 := F18.binds (ps := ["words", "first"]) fun _ _ _ _ _ _ us hl => match us, hl with | [_, _], _ => rfl
  have b19 := F19.binds (ps := ["text"]) fun _ _ _ _ _ _ us hl => match us, hl with | [_], _ => rfl
  have b20 := F20.binds (ps := ["text"]) fun _ _ _ _ _ _ us hl => match us, hl with | [_], _ => rfl
  have b21 := F21.binds (ps := ["error"]) fun _ _ _ _ _ _ us hl => match us, hl with | [_], _ => rfl
  have b22 := F22.binds (ps := ["word"]) fun _ _ _ _ _ _ us hl => match us, hl with | [_], _ => rfl
  have b23 := F23.binds (ps := ["thing"]) fun _ _ _ _ _ _ us hl => match us, hl with | [_], _ => rfl
  have b24 := F24.binds (ps := ["thing"]) fun _ _ _ _ _ _ us hl => match us, hl with | [_], _ => rfl
  have b25 := F25.binds (ps := ["thing", "low"]) fun _ _ _ _ _ _ us hl => match us, hl with | [_, _], _ => rfl
  have b26 := F26.binds (ps := ["thing"]) fun _ _ _ _ _ _ us hl => match us, hl with | [_], _ => rfl
  have b27 := F27.binds (ps := ["text"]) fun _ _ _ _ _ _ us hl => match us, hl with | [_], _ => rfl
  have b28 := F28.binds (ps := ["text"]) fun _ _ _ _ _ _ us hl => match us, hl with | [_], _ => rfl
  have b29 := F29.binds (ps := ["pile", "some"]) fun _ _ _ _ _ _ us hl => match us, hl with | [_, _], _ => rfl
  have b30 := F30.binds (ps := ["pile", "text"]) fun _ _ _ _ _ _ us hl => match us, hl with | [_, _], _ => rfl
  refine ⟨PySem.W.fnOf "law" "law" (defArgs lLaw) (defBody lLaw) (defScope lLaw) .none kV31 dc31 pm31 an31 cd31 ct31, fun s v => .of_eq rfl, fun base _ _ => ?_⟩
  have SU : FD.SupC l.prog K (A "NoText") ccI cdaI fI (defBody sInit) "__init__" "NoText.__init__" (defArgs sInit) (defScope sInit) := ⟨OX, xs1, xs2, xs3, xs4, ⟨_, _, _, xs5⟩, ⟨_, _, _, _, _, _, xs6, xs7, xs8⟩, ⟨_, _, _, _, _, _, _, _, _, xi3⟩, xs9, xs0, z20⟩
  have EN : FD.ErrN l.prog w K mg base "NoText" (A "NoText") := err_ok (PySem.W.mg_of X G nNoText) OX xi1 xi2 xi3 SU (PySem.W.mg_none_of X G z20) xln
  have C1 : Cal l.prog w K mg base 1 "_law_mixed" ["cell", "k"] (spD 2 preII postI) := ⟨⟨_, _, ok_mix F1 bi, PySem.W.mg_of X G a1, k1, b1⟩⟩
  have C2 : Cal l.prog w K mg base 2 "_law_pile" ["script", "k"] (spN K) := ⟨⟨_, _, ok_pile F2 bi C1, PySem.W.mg_of X G a2, k2, b2⟩⟩
  have C3 : Cal l.prog w K mg base 2 "_law_take" ["pile", "size"] (spP 1 preT postT) := ⟨⟨_, _, ok_take F3 bi C1, PySem.W.mg_of X G a3, k3, b3⟩⟩
  have C4 : Cal l.prog w K mg base 3 "_law_row" ["pile", "letters", "m", "size"] (spP 3 preMR postMR) := ⟨⟨_, _, ok_mkrow F4 bi C3, PySem.W.mg_of X G a4, k4, b4⟩⟩
  have C5 : Cal l.prog w K mg base 1 "_law_text" ["row"] (spF 1 preRT fText) := ⟨⟨_, _, ok_ltext F5 bi, PySem.W.mg_of X G a5, k5, b5⟩⟩
  have C6 : Cal l.prog w K mg base 1 "is_tuple" ["thing", "size"] (spF 2 (fun ds => ∃ d j, ds = [d, .int j]) fTup) := ⟨⟨_, _, ok_tup F6 bi, PySem.W.mg_of X G a6, k6, b6⟩⟩
  have C7 : Cal l.prog w K mg base 1 "is_letter" ["thing"] (spF 1 (fun ds => ∃ d, ds = [d] ∧ sm d = true) fLet) := ⟨⟨_, _, ok_let F7 bi, PySem.W.mg_of X G a7, k7, b7⟩⟩
  have C8 : Cal l.prog w K mg base 1 "is_number" ["thing", "least"] (spF 2 (fun ds => ∃ d j, ds = [d, .int j]) fNum) := ⟨⟨_, _, ok_num F8 bi, PySem.W.mg_of X G a8, k8, b8⟩⟩
  have C9 : Cal l.prog w K mg base 2 "is_event" ["thing"] (spF 1 preD fEvt) := ⟨⟨_, _, ok_evt F9 bi C6 C7 C8, PySem.W.mg_of X G a9, k9, b9⟩⟩
  have C10 : Cal l.prog w K mg base 3 "is_row" ["thing"] (spF 1 preD fRow) := ⟨⟨_, _, ok_row F10 bi C6 C9 C8, PySem.W.mg_of X G a10, k10, b10⟩⟩
  have C11 : Cal l.prog w K mg base 4 "check_row" ["row"] (spF 1 preR fun _ => .none) := ⟨⟨_, _, ok_chk F11 bi C10, PySem.W.mg_of X G a11, k11, b11⟩⟩
  have C12 : Cal l.prog w K mg base 5 "row_text" ["row"] (spF 1 preRT fText) := ⟨⟨_, _, ok_text F12 bi C11, PySem.W.mg_of X G a12, k12, b12⟩⟩
  have C13 : CalX l.prog w K mg base 3 "lines_of" ["text"] (spXN (A "NoText") 1 preX postLines fun _ _ => False) := ⟨⟨_, _, ok_lines F13 bi EN, PySem.W.mg_of X G a13, k13, b13⟩⟩
  have C14 : CalX l.prog w K mg base 3 "check_parts" ["parts"] (spXN (A "NoText") 1 preP (fun ds d => ∃ ps, ds = [.list ps] ∧ firstNone ps = none) fun ds n => ∃ ps k, ds = [.list ps] ∧ firstNone ps = some k ∧ n = (k : Int) + 1) := ⟨⟨_, _, ok_parts F14 bi EN, PySem.W.mg_of X G a14, k14, b14⟩⟩
  have C15 : Cal l.prog w K mg base 2 "read_number" ["word"] (spF 1 preS fNumb) := ⟨⟨_, _, ok_numb F15 bi hM, PySem.W.mg_of X G a15, k15, b15⟩⟩
  have C16 : Cal l.prog w K mg base 3 "read_event" ["words"] (spF 1 preW fEvent) := ⟨⟨_, _, ok_event F16 bi C15 C7, PySem.W.mg_of X G a16, k16, b16⟩⟩
  have C17 : Cal l.prog w K mg base 3 "read_numbers" ["words", "first"] (spF 2 preWF fNumbs) := ⟨⟨_, _, ok_numbs F17 bi C15, PySem.W.mg_of X G a17, k17, b17⟩⟩
  have C18 : Cal l.prog w K mg base 4 "read_count" ["words", "first"] (spF 2 preWF fCount) := ⟨⟨_, _, ok_count F18 bi C17, PySem.W.mg_of X G a18, k18, b18⟩⟩
  have C19 : CalX l.prog w K mg base 5 "read_row" ["text"] (spXN (A "NoText") 1 preX (fun ds d => ∃ x, ds = [.str x] ∧ readF x = .row d) fun ds n => ∃ x, ds = [.str x] ∧ readF x = .bad n) := ⟨⟨_, _, ok_read F19 bi hE EN C13 C14 C16 C18 C10, PySem.W.mg_of X G a19, k19, b19⟩⟩
  have C20 : Cal l.prog w K mg base 6 "_law_caught" ["text"] (spCau (A "NoText") preBad badRead) := ⟨⟨_, _, ok_caught F20 bi ES xmNoText C19, PySem.W.mg_of X G a20, k20, b20⟩⟩
  have C21 : Cal l.prog w K mg base 1 "_law_word_of" ["error"] (spWN (A "NoText") fun _ d => d = .str "text") := ⟨⟨_, _, ok_word F21 bi ES, PySem.W.mg_of X G a21, k21, b21⟩⟩
  have C22 : Cal l.prog w K mg base 1 "_law_number_of" ["word"] (spF 1 preSL fNumb) := ⟨⟨_, _, ok_lnum F22 bi, PySem.W.mg_of X G a22, k22, b22⟩⟩
  have C23 : Cal l.prog w K mg base 1 "_law_is_letter" ["thing"] (spF 1 preD fLet) := ⟨⟨_, _, ok_letL F23 bi, PySem.W.mg_of X G a23, k23, b23⟩⟩
  have C24 : Cal l.prog w K mg base 1 "_law_whole" ["thing"] (spF 1 (fun ds => ∃ d, ds = [d]) fWhole) := ⟨⟨_, _, ok_whole F24 bi, PySem.W.mg_of X G a24, k24, b24⟩⟩
  have C25 : Cal l.prog w K mg base 2 "_law_is_from" ["thing", "low"] (spF 2 preN fNum) := ⟨⟨_, _, ok_from F25 bi C24, PySem.W.mg_of X G a25, k25, b25⟩⟩
  have C26 : Cal l.prog w K mg base 3 "_law_is_row" ["thing"] (spF 1 preD fRow) := ⟨⟨_, _, ok_rowL F26 bi C25 C23, PySem.W.mg_of X G a26, k26, b26⟩⟩
  have C27 : Cal l.prog w K mg base 4 "_law_due" ["text"] (spF 1 preXL fDue) := ⟨⟨_, _, ok_due F27 bi C22 C23 C26, PySem.W.mg_of X G a27, k27, b27⟩⟩
  have C28 : Cal l.prog w K mg base 6 "_law_both" ["text"] (spF 1 preXL fun _ => .bool true) := ⟨⟨_, _, ok_both F28 bi ES xmNoText XF xln C19 C27 C21, PySem.W.mg_of X G a28, k28, b28⟩⟩
  have C29 : Cal l.prog w K mg base 3 "_law_pick" ["pile", "some"] (spP 1 (fun ds => ∃ xs : List PyData, ds = [.list xs] ∧ 1 ≤ xs.length ∧ xs.length ≤ 100) fun ds d => ∃ xs, ds = [.list xs] ∧ d ∈ xs) := ⟨⟨_, _, ok_pick F29 bi C3, PySem.W.mg_of X G a29, k29, b29⟩⟩
  have C30 : Cal l.prog w K mg base 4 "_law_bent" ["pile", "text"] (spP 1 preBent postBent) := ⟨⟨_, _, ok_bent F30 bi C3 C29, PySem.W.mg_of X G a30, k30, b30⟩⟩
  exact ok_law F31 bi XF xln C2 C4 C3 C5 C12 C19 C20 C21 C28 C30

end K60
open PySem PySem.W PyProof.Rows
set_option maxHeartbeats 0 in
theorem PySem.Challenge.cw_sinceclocks_k60_rows_written_holds : PySem.Challenge.rw_sinceclocks_k60_rows_written.Holds := by
  w_on; o_law; k_head; (case hw => w_witness2)
  k_fill
  refine FD.walkG (k := 7) (x := "script") rfl rfl ⟨rfl, by decide, by decide⟩ (fun w h Y => PySem.W.kIn_of Y) ?F
  case F =>
    intro w mg fa h KX G hmg
    refine' K60.all_mk KX G hmg ?a1 ?l1 ?c1 ?k1 ?a2 ?l2 ?c2 ?k2 ?a3 ?l3 ?c3 ?k3 ?a4 ?l4 ?c4 ?k4 ?a5 ?l5 ?c5 ?k5 ?a6 ?l6 ?c6 ?k6 ?a7 ?l7 ?c7 ?k7 ?a8 ?l8 ?c8 ?k8 ?a9 ?l9 ?c9 ?k9 ?a10 ?l10 ?c10 ?k10 ?a11 ?l11 ?c11 ?k11 ?a12 ?l12 ?c12 ?k12 ?a13 ?l13 ?c13 ?k13 ?a14 ?l14 ?c14 ?k14 ?a15 ?l15 ?c15 ?k15 ?a16 ?l16 ?c16 ?k16 ?a17 ?l17 ?c17 ?k17 ?a18 ?l18 ?c18 ?k18 ?a19 ?l19 ?c19 ?k19 ?a20 ?l20 ?c20 ?k20 ?a21 ?l21 ?c21 ?k21 ?a22 ?l22 ?c22 ?k22 ?a23 ?l23 ?c23 ?k23 ?a24 ?l24 ?c24 ?k24 ?a25 ?l25 ?c25 ?k25 ?a26 ?l26 ?c26 ?k26 ?a27 ?l27 ?c27 ?k27 ?a28 ?l28 ?c28 ?k28 ?a29 ?l29 ?c29 ?k29 ?a30 ?l30 ?c30 ?k30 ?a31 ?l31 ?c31 ?k31 ?aM ?nNoRow ?nNoMachine ?nNoNumber ?nNoLetter ?nNoLetters ?nNoBound ?nNoLook ?nNoCount ?nNoMost ?nNoMachines ?nNoTold ?nNoGrain ?nNoWait ?nNoText ?nSinceError ?xhgNoText ?xhkNoText ?xhsNoText ?xhdNoText ?xhaNoText ?xhmNoText ?xkNoText ?xtNoText ?xmNoText ?xvNoText ?yNoTextNoRow ?yNoTextNoMachine ?yNoTextNoNumber ?yNoTextNoLetter ?yNoTextNoLetters ?yNoTextNoBound ?yNoTextNoLook ?yNoTextNoCount ?yNoTextNoMost ?yNoTextNoMachines ?yNoTextNoTold ?yNoTextNoGrain ?yNoTextNoWait ?yNoTextNoText ?yNoTextSinceError ?xo1 ?xo2 ?xo3 ?xi1 ?xi2 ?xi3 ?xs1 ?xs2 ?xs3 ?xs4 ?xs5 ?xs6 ?xs7 ?xs8 ?xs9 ?xs0 ?xln ?xhn ?xht ?xnv ?xnNoRow ?xnNoMachine ?xnNoNumber ?xnNoLetter ?xnNoLetters ?xnNoBound ?xnNoLook ?xnNoCount ?xnNoMost ?xnNoMachines ?xnNoTold ?xnNoGrain ?xnNoWait ?xnNoText ?xnSinceError ?z1 ?z2 ?z3 ?z4 ?z5 ?z6 ?z7 ?z8 ?z9 ?z10 ?z11 ?z12 ?z13 ?z14 ?z15 ?z16 ?z17 ?z18 ?z19 ?z20
    (case a1 => k_is); (case l1 => k_is); (case c1 => k_is); (case k1 => k_is); (case a2 => k_is); (case l2 => k_is); (case c2 => k_is); (case k2 => k_is); (case a3 => k_is); (case l3 => k_is); (case c3 => k_is); (case k3 => k_is); (case a4 => k_is); (case l4 => k_is); (case c4 => k_is); (case k4 => k_is); (case a5 => k_is); (case l5 => k_is); (case c5 => k_is); (case k5 => k_is); (case a6 => k_is); (case l6 => k_is); (case c6 => k_is); (case k6 => k_is); (case a7 => k_is); (case l7 => k_is); (case c7 => k_is); (case k7 => k_is); (case a8 => k_is); (case l8 => k_is); (case c8 => k_is); (case k8 => k_is); (case a9 => k_is); (case l9 => k_is); (case c9 => k_is); (case k9 => k_is); (case a10 => k_is); (case l10 => k_is); (case c10 => k_is); (case k10 => k_is); (case a11 => k_is); (case l11 => k_is); (case c11 => k_is); (case k11 => k_is); (case a12 => k_is); (case l12 => k_is); (case c12 => k_is); (case k12 => k_is); (case a13 => k_is); (case l13 => k_is); (case c13 => k_is); (case k13 => k_is); (case a14 => k_is); (case l14 => k_is); (case c14 => k_is); (case k14 => k_is); (case a15 => k_is); (case l15 => k_is); (case c15 => k_is); (case k15 => k_is); (case a16 => k_is); (case l16 => k_is); (case c16 => k_is); (case k16 => k_is); (case a17 => k_is); (case l17 => k_is); (case c17 => k_is); (case k17 => k_is); (case a18 => k_is); (case l18 => k_is); (case c18 => k_is); (case k18 => k_is); (case a19 => k_is); (case l19 => k_is); (case c19 => k_is); (case k19 => k_is); (case a20 => k_is); (case l20 => k_is); (case c20 => k_is); (case k20 => k_is); (case a21 => k_is); (case l21 => k_is); (case c21 => k_is); (case k21 => k_is); (case a22 => k_is); (case l22 => k_is); (case c22 => k_is); (case k22 => k_is); (case a23 => k_is); (case l23 => k_is); (case c23 => k_is); (case k23 => k_is); (case a24 => k_is); (case l24 => k_is); (case c24 => k_is); (case k24 => k_is); (case a25 => k_is); (case l25 => k_is); (case c25 => k_is); (case k25 => k_is); (case a26 => k_is); (case l26 => k_is); (case c26 => k_is); (case k26 => k_is); (case a27 => k_is); (case l27 => k_is); (case c27 => k_is); (case k27 => k_is); (case a28 => k_is); (case l28 => k_is); (case c28 => k_is); (case k28 => k_is); (case a29 => k_is); (case l29 => k_is); (case c29 => k_is); (case k29 => k_is); (case a30 => k_is); (case l30 => k_is); (case c30 => k_is); (case k30 => k_is); (case a31 => k_is); (case l31 => k_is); (case c31 => k_is); (case k31 => k_is); (case aM => k_is); (case nNoRow => k_is); (case nNoMachine => k_is); (case nNoNumber => k_is); (case nNoLetter => k_is); (case nNoLetters => k_is); (case nNoBound => k_is); (case nNoLook => k_is); (case nNoCount => k_is); (case nNoMost => k_is); (case nNoMachines => k_is); (case nNoTold => k_is); (case nNoGrain => k_is); (case nNoWait => k_is); (case nNoText => k_is); (case nSinceError => k_is); (case xhgNoText => k_is); (case xhkNoText => k_is); (case xhsNoText => k_is); (case xhdNoText => k_is); (case xhaNoText => k_is); (case xhmNoText => k_is); (case xkNoText => k_is); (case xtNoText => k_is); (case xmNoText => kernel_rfl); (case xvNoText => kernel_rfl); (case yNoTextNoRow => kernel_rfl); (case yNoTextNoMachine => kernel_rfl); (case yNoTextNoNumber => kernel_rfl); (case yNoTextNoLetter => kernel_rfl); (case yNoTextNoLetters => kernel_rfl); (case yNoTextNoBound => kernel_rfl); (case yNoTextNoLook => kernel_rfl); (case yNoTextNoCount => kernel_rfl); (case yNoTextNoMost => kernel_rfl); (case yNoTextNoMachines => kernel_rfl); (case yNoTextNoTold => kernel_rfl); (case yNoTextNoGrain => kernel_rfl); (case yNoTextNoWait => kernel_rfl); (case yNoTextNoText => kernel_rfl); (case yNoTextSinceError => kernel_rfl); (case xo1 => k_is); (case xo2 => kernel_rfl); (case xo3 => k_is); (case xi1 => k_is); (case xi2 => k_is); (case xi3 => k_is); (case xs1 => k_is); (case xs2 => kernel_rfl); (case xs3 => k_is); (case xs4 => k_is); (case xs5 => k_is); (case xs6 => k_is); (case xs7 => rfl); (case xs8 => kernel_rfl); (case xs9 => k_is); (case xs0 => kernel_rfl); (case xln => k_is); (case xhn => k_is); (case xht => k_is); (case xnv => kernel_rfl); (case xnNoRow => kernel_rfl); (case xnNoMachine => kernel_rfl); (case xnNoNumber => kernel_rfl); (case xnNoLetter => kernel_rfl); (case xnNoLetters => kernel_rfl); (case xnNoBound => kernel_rfl); (case xnNoLook => kernel_rfl); (case xnNoCount => kernel_rfl); (case xnNoMost => kernel_rfl); (case xnNoMachines => kernel_rfl); (case xnNoTold => kernel_rfl); (case xnNoGrain => kernel_rfl); (case xnNoWait => kernel_rfl); (case xnNoText => kernel_rfl); (case xnSinceError => kernel_rfl); (case z1 => k_is); (case z2 => k_is); (case z3 => k_is); (case z4 => k_is); (case z5 => k_is); (case z6 => k_is); (case z7 => k_is); (case z8 => k_is); (case z9 => k_is); (case z10 => k_is); (case z11 => k_is); (case z12 => k_is); (case z13 => k_is); (case z14 => k_is); (case z15 => k_is); (case z16 => k_is); (case z17 => k_is); (case z18 => k_is); (case z19 => k_is); (case z20 => k_is)
