import PyProof.Rows.All
import Wide.All
import OpenK.AllK
import Wide.FinOn
import HandS.ForMost
import HandS.IsInst
import HandS.Walk
import HandS.Wide
import HandS.TupMul
import HandS.TupAny
import HandS.TupLe
import HandS.Style
import HandS.Star
import HandS.Zip
import HandS.Steps
import HandS.Deep
import Flt.Len
import KE.KUnpackStar
import HandS.TryOnly
import KE.GoesEnum
import HandS.SetFor
import HandS.Strs
import HandS.HeadHook3
import PySem.Challenge.RW_batchyard_k02_whole_codes
set_option Elab.async false
set_option linter.all false
set_option maxRecDepth 100000
set_option maxHeartbeats 2000000
/-! what defs do to data: readings over a heap with lists of one's own laid over it -/
namespace DD
open PySem PySem.Spec PyProof.Rows L2

abbrev D := PyData
/-- lists of one's own -/
abbrev Ov := Addr → Option (List V)
def ov (H : Hp) (T : Ov) : Hp := fun a => match T a with
  | some xs => some (.lst xs)
  | none => H a
def Dis (H : Hp) (T : Ov) : Prop := ∀ a xs, T a = some xs → H a = none
def Ext (T0 T : Ov) : Prop := ∀ a xs, T0 a = some xs → T a = some xs
def put (T : Ov) (p : Addr) (xs : List V) : Ov := fun a => if a = p then some xs else T a
def cut (T : Ov) (p : Addr) : Ov := fun a => if a = p then none else T a

theorem ov_own {H : Hp} {T : Ov} {a : Addr} {xs : List V} (h : T a = some xs) : ov H T a = some (.lst xs) := by
  unfold ov; rw [h]
theorem ov_none {H : Hp} {T : Ov} {a : Addr} (h : T a = none) : ov H T a = H a := by
  unfold ov; rw [h]
theorem ov_free {H : Hp} {T : Ov} {a : Addr} (h : ov H T a = none) : T a = none ∧ H a = none := by
  cases e : T a with
  | none => rw [ov_none e] at h; exact ⟨rfl, h⟩
  | some xs => rw [ov_own e] at h; cases h
/-- all that H knows stays under T -/
theorem same_ov {H : Hp} {T : Ov} (d : Dis H T) : Same H (ov H T) := fun a o h => by
  cases e : T a with
  | none => rw [ov_none e]; exact h
  | some xs => have := d a xs e; rw [h] at this; cases this
theorem upd_ov {H : Hp} {T : Ov} {p : Addr} {o : HO} (h : T p = none) : upd (ov H T) p o = ov (upd H p o) T := by
  funext a
  by_cases e : a = p
  · subst e; rw [upd_same, ov_none h, upd_same]
  · rw [upd_ne e]
    cases q : T a with
    | none => rw [ov_none q, ov_none q, upd_ne e]
    | some xs => rw [ov_own q, ov_own q]
theorem upd_put {H : Hp} {T : Ov} {p : Addr} {xs : List V} : upd (ov H T) p (.lst xs) = ov H (put T p xs) := by
  funext a
  by_cases e : a = p
  · subst e
    have : put T a xs a = some xs := by unfold put; rw [if_pos rfl]
    rw [upd_same, ov_own this]
  · have : put T p xs a = T a := by unfold put; rw [if_neg e]
    rw [upd_ne e]
    unfold ov
    rw [this]
theorem put_same {T : Ov} {p : Addr} {xs : List V} : put T p xs p = some xs := by unfold put; rw [if_pos rfl]
theorem put_ne {T : Ov} {p a : Addr} {xs : List V} (h : a ≠ p) : put T p xs a = T a := by unfold put; rw [if_neg h]
theorem same_new {H : Hp} {p : Addr} {o : HO} (h : H p = none) : Same H (upd H p o) := fun b x e => by
  rw [upd_ne (ne_of_none e h)]; exact e
theorem dis_upd {H : Hp} {T : Ov} {p : Addr} {o : HO} (d : Dis H T) (h : T p = none) : Dis (upd H p o) T := fun a xs e => by
  have : a ≠ p := fun z => by rw [z, h] at e; cases e
  rw [upd_ne this]; exact d a xs e
theorem dis_put {H : Hp} {T : Ov} {p : Addr} {xs : List V} (d : Dis H T) (h : H p = none) : Dis H (put T p xs) := fun a ys e => by
  by_cases q : a = p
  · rw [q]; exact h
  · rw [put_ne q] at e; exact d a ys e
/-- a list of one's own becomes one that is known -/
theorem ov_freeze {H : Hp} {T : Ov} {p : Addr} {xs : List V} (h : T p = some xs) : ov H T = ov (upd H p (.lst xs)) (cut T p) := by
  funext a
  by_cases e : a = p
  · subst e
    have : cut T a a = none := by unfold cut; rw [if_pos rfl]
    rw [ov_own h, ov_none this, upd_same]
  · have : cut T p a = T a := by unfold cut; rw [if_neg e]
    unfold ov
    rw [this]
    cases q : T a with
    | none => exact (upd_ne e).symm
    | some ys => rfl

/-! ### data -/
theorem Same.sqt {K : PySem.W.Frag} {H H' : Hp} {a : Addr} {xs : List V} (e : Same H H') (h : SqT K H a xs) : SqT K H' a xs := by
  rcases h with (h | ⟨o, h⟩) | h
  · exact .inl (.inl (e _ _ h))
  · exact .inl (.inr ⟨o, e _ _ h⟩)
  · exact .inr h
mutual
theorem dp_mono {K : PySem.W.Frag} {H H' : Hp} (e : Same H H') : ∀ {v : V} {d : D}, Dp K H v d → Dp K H' v d
  | _, _, .non => .non
  | _, _, .bl b => .bl b
  | _, _, .int i => .int i
  | _, _, .str x => .str x
  | _, _, .lst h t => .lst (e.seq h) (dpa_mono e t)
  | _, _, .tup h t => .tup (Same.sqt e h) (dpa_mono e t)
theorem dpa_mono {K : PySem.W.Frag} {H H' : Hp} (e : Same H H') : ∀ {vs : List V} {ds : List D}, DpAll K H vs ds → DpAll K H' vs ds
  | _, _, .nil => .nil
  | _, _, .cons h t => .cons (dp_mono e h) (dpa_mono e t)
end
theorem dpa_len {K : PySem.W.Frag} {H : Hp} : ∀ {vs : List V} {ds : List D}, DpAll K H vs ds → vs.length = ds.length
  | _, _, .nil => rfl
  | _, _, .cons _ t => by rw [List.length_cons, List.length_cons, dpa_len t]
theorem dpa_get {K : PySem.W.Frag} {H : Hp} : ∀ {vs : List V} {ds : List D}, DpAll K H vs ds → ∀ {i : Nat} {d : D}, ds[i]? = some d → ∃ v, vs[i]? = some v ∧ Dp K H v d
  | _, _, .nil, i, d, h => by simp at h
  | _, _, .cons h t, 0, d, e => by
    simp at e; subst e; exact ⟨_, rfl, h⟩
  | _, _, .cons h t, i + 1, d, e => by
    obtain ⟨v, q, r⟩ := dpa_get t (i := i) (by simpa using e)
    exact ⟨v, by simpa using q, r⟩
theorem dpa_append {K : PySem.W.Frag} {H : Hp} : ∀ {vs ws : List V} {ds es : List D}, DpAll K H vs ds → DpAll K H ws es → DpAll K H (vs ++ ws) (ds ++ es)
  | _, _, _, _, .nil, s => s
  | _, _, _, _, .cons h t, s => .cons h (dpa_append t s)
theorem dpa_take {K : PySem.W.Frag} {H : Hp} : ∀ {vs : List V} {ds : List D} (n : Nat), DpAll K H vs ds → DpAll K H (vs.take n) (ds.take n)
  | _, _, 0, _ => .nil
  | _, _, _ + 1, .nil => .nil
  | _, _, n + 1, .cons h t => .cons h (dpa_take n t)
theorem dpa_drop {K : PySem.W.Frag} {H : Hp} : ∀ {vs : List V} {ds : List D} (n : Nat), DpAll K H vs ds → DpAll K H (vs.drop n) (ds.drop n)
  | _, _, 0, h => h
  | _, _, _ + 1, .nil => .nil
  | _, _, n + 1, .cons _ t => dpa_drop n t
theorem dpa_rep {K : PySem.W.Frag} {H : Hp} {vs : List V} {ds : List D} (h : DpAll K H vs ds) : ∀ n : Nat, DpAll K H (List.replicate n vs).flatten (List.replicate n ds).flatten
  | 0 => .nil
  | n + 1 => by
    rw [List.replicate_succ, List.replicate_succ, List.flatten_cons, List.flatten_cons]
    exact dpa_append h (dpa_rep h n)
theorem dpa_ints {K : PySem.W.Frag} {H : Hp} : ∀ ns : List Int, DpAll K H (ns.map V.int) (ns.map PyData.int)
  | [] => .nil
  | n :: r => .cons (.int n) (dpa_ints r)
theorem dpa_snoc {K : PySem.W.Frag} {H : Hp} {vs : List V} {ds : List D} {v : V} {d : D} (h : DpAll K H vs ds) (g : Dp K H v d) : DpAll K H (vs ++ [v]) (ds ++ [d]) := dpa_append h (.cons g .nil)
theorem dpa_nil_iff {K : PySem.W.Frag} {H : Hp} {vs : List V} {ds : List D} (h : DpAll K H vs ds) : ds = [] ↔ vs = [] := by
  cases h with
  | nil => exact Iff.intro (fun _ => rfl) (fun _ => rfl)
  | cons _ _ => exact Iff.intro (fun z => nomatch z) (fun z => nomatch z)

/-! ### slots -/
inductive Sl where
  | val (d : D)
  | own (ds : List D)
abbrev En := List (Option Sl)

/-- where one stands in a def: H0, T0 what the caller has -/
structure Good (K : PySem.W.Frag) (H0 : Hp) (T0 : Ov) (σ : L2.St) (ρ : En) (H : Hp) (T : Ov) : Prop where
  len : ρ.length = σ.length
  val : ∀ (i : Nat) (d : D), ρ[i]? = some (some (Sl.val d)) → ∃ v, σ[i]? = some (some v) ∧ Dp K H v d
  own : ∀ (i : Nat) (ds : List D), ρ[i]? = some (some (Sl.own ds)) → ∃ p xs, σ[i]? = some (some (.ref p)) ∧ T p = some xs ∧ T0 p = none ∧ DpAll K H xs ds
  inj : ∀ (i j : Nat) (ds es : List D) (p : Addr), ρ[i]? = some (some (Sl.own ds)) → ρ[j]? = some (some (Sl.own es)) → σ[i]? = some (some (.ref p)) → σ[j]? = some (some (.ref p)) → i = j
  dis : Dis H T
  ext : Ext T0 T
  ex : Same H0 H
section
variable {K : PySem.W.Frag} {H0 H H' : Hp} {T0 T : Ov} {σ : L2.St} {ρ : En}
theorem Good.mono (G : Good K H0 T0 σ ρ H T) (e : Same H H') (d : Dis H' T) : Good K H0 T0 σ ρ H' T :=
  ⟨G.len, fun i x h => let ⟨v, a, b⟩ := G.val i x h; ⟨v, a, dp_mono e b⟩, fun i x h => let ⟨p, xs, a, b, c, f⟩ := G.own i x h; ⟨p, xs, a, b, c, dpa_mono e f⟩, G.inj, d, G.ext, G.ex.trans e⟩
theorem get_set {α : Type} {l : List α} {i j : Nat} {x : α} {y : α} (h : (l.set i x)[j]? = some y) : (j = i ∧ y = x ∧ i < l.length) ∨ (j ≠ i ∧ l[j]? = some y) := by
  by_cases e : j = i
  · subst e
    by_cases q : j < l.length
    · rw [List.getElem?_set_self q] at h
      exact .inl ⟨rfl, (Option.some.inj h).symm, q⟩
    · rw [List.getElem?_eq_none (by simpa using q)] at h; cases h
  · rw [List.getElem?_set_ne (Ne.symm e)] at h
    exact .inr ⟨e, h⟩
theorem set_self {α : Type} {l : List α} {i : Nat} {x : α} (h : i < l.length) : (l.set i x)[i]? = some x := List.getElem?_set_self h
/-- a slot gets a value -/
theorem Good.set {i : Nat} {v : V} {d : D} (G : Good K H0 T0 σ ρ H T) (g : Dp K H v d) : Good K H0 T0 (σ.set i (some v)) (ρ.set i (some (Sl.val d))) H T := by
  refine ⟨by rw [List.length_set, List.length_set]; exact G.len, fun j x h => ?_, fun j x h => ?_, fun j k ds es p h1 h2 h3 h4 => ?_, G.dis, G.ext, G.ex⟩
  · rcases get_set h with ⟨e, q, l⟩ | ⟨e, q⟩
    · subst e
      cases q
      exact ⟨v, set_self (by rw [← G.len]; exact l), g⟩
    · obtain ⟨w, a, b⟩ := G.val j x q
      exact ⟨w, by rw [List.getElem?_set_ne (Ne.symm e)]; exact a, b⟩
  · rcases get_set h with ⟨e, q, l⟩ | ⟨e, q⟩
    · cases q
    · obtain ⟨p, xs, a, b⟩ := G.own j x q
      exact ⟨p, xs, by rw [List.getElem?_set_ne (Ne.symm e)]; exact a, b⟩
  · rcases get_set h1 with ⟨_, q, _⟩ | ⟨e1, q1⟩
    · cases q
    · rcases get_set h2 with ⟨_, q, _⟩ | ⟨e2, q2⟩
      · cases q
      · rw [List.getElem?_set_ne (Ne.symm e1)] at h3
        rw [List.getElem?_set_ne (Ne.symm e2)] at h4
        exact G.inj j k ds es p q1 q2 h3 h4
/-- a slot gets a new list of one's own -/
theorem Good.setOwn {i : Nat} {p : Addr} {xs : List V} {ds : List D} (G : Good K H0 T0 σ ρ H T) (g : DpAll K H xs ds) (hp : ov H T p = none) :
    Good K H0 T0 (σ.set i (some (.ref p))) (ρ.set i (some (Sl.own ds))) H (put T p xs) := by
  obtain ⟨hT, hH⟩ := ov_free hp
  have h0 : T0 p = none := by
    cases e : T0 p with
    | none => rfl
    | some ys => have := G.ext p ys e; rw [hT] at this; cases this
  have ne : ∀ a ys, T a = some ys → a ≠ p := fun a ys e z => by rw [z, hT] at e; cases e
  refine ⟨by rw [List.length_set, List.length_set]; exact G.len, fun j x h => ?_, fun j x h => ?_, fun j k ds es q h1 h2 h3 h4 => ?_, dis_put G.dis hH, fun a ys e => ?_, G.ex⟩
  · rcases get_set h with ⟨e, q, l⟩ | ⟨e, q⟩
    · cases q
    · obtain ⟨w, a, b⟩ := G.val j x q
      exact ⟨w, by rw [List.getElem?_set_ne (Ne.symm e)]; exact a, b⟩
  · rcases get_set h with ⟨e, q, l⟩ | ⟨e, q⟩
    · cases q
      subst e
      exact ⟨p, xs, set_self (by rw [← G.len]; exact l), put_same, h0, g⟩
    · obtain ⟨r, ys, a, b, c⟩ := G.own j x q
      exact ⟨r, ys, by rw [List.getElem?_set_ne (Ne.symm e)]; exact a, by rw [put_ne (ne r ys b)]; exact b, c⟩
  · rcases get_set h1 with ⟨e1, q1, l1⟩ | ⟨e1, q1⟩
    · rcases get_set h2 with ⟨e2, q2, l2⟩ | ⟨e2, q2⟩
      · rw [e1, e2]
      · subst e1
        rw [set_self (by rw [← G.len]; exact l1)] at h3
        cases h3
        rw [List.getElem?_set_ne (Ne.symm e2)] at h4
        obtain ⟨r, ys, a, b, _⟩ := G.own k es q2
        rw [h4] at a
        cases a
        exact absurd rfl (ne _ ys b)
    · rcases get_set h2 with ⟨e2, q2, l2⟩ | ⟨e2, q2⟩
      · subst e2
        rw [set_self (by rw [← G.len]; exact l2)] at h4
        cases h4
        rw [List.getElem?_set_ne (Ne.symm e1)] at h3
        obtain ⟨r, ys, a, b, _⟩ := G.own j _ q1
        rw [h3] at a
        cases a
        exact absurd rfl (ne _ ys b)
      · rw [List.getElem?_set_ne (Ne.symm e1)] at h3
        rw [List.getElem?_set_ne (Ne.symm e2)] at h4
        exact G.inj j k _ es q q1 q2 h3 h4
  · rw [put_ne (ne a ys (G.ext a ys e))]
    exact G.ext a ys e
/-- a list of one's own turns -/
theorem Good.turn {i : Nat} {p : Addr} {xs ys : List V} {ds es : List D} (G : Good K H0 T0 σ ρ H T) (h : ρ[i]? = some (some (Sl.own ds))) (hs : σ[i]? = some (some (.ref p))) (ht : T p = some xs) (g : DpAll K H ys es) :
    Good K H0 T0 σ (ρ.set i (some (Sl.own es))) H (put T p ys) := by
  obtain ⟨p', xs', a, b, c, f⟩ := G.own i ds h
  rw [hs] at a
  cases a
  refine ⟨by rw [List.length_set]; exact G.len, fun j x q => ?_, fun j x q => ?_, fun j k as bs r h1 h2 h3 h4 => ?_, dis_put G.dis (G.dis p xs ht), fun a zs e => ?_, G.ex⟩
  · rcases get_set q with ⟨_, q, _⟩ | ⟨_, q⟩
    · cases q
    · exact G.val j x q
  · rcases get_set q with ⟨e, q, _⟩ | ⟨e, q⟩
    · cases q
      subst e
      exact ⟨p, ys, hs, put_same, c, g⟩
    · obtain ⟨r, zs, a, b, c⟩ := G.own j x q
      have : r ≠ p := fun z => e (G.inj j i x ds p q h (z ▸ a) hs)
      exact ⟨r, zs, a, by rw [put_ne this]; exact b, c⟩
  · have o1 : ∃ us, ρ[j]? = some (some (Sl.own us)) := by
      rcases get_set h1 with ⟨e, q, _⟩ | ⟨_, q⟩
      · exact ⟨ds, e ▸ h⟩
      · exact ⟨_, q⟩
    have o2 : ∃ us, ρ[k]? = some (some (Sl.own us)) := by
      rcases get_set h2 with ⟨e, q, _⟩ | ⟨_, q⟩
      · exact ⟨ds, e ▸ h⟩
      · exact ⟨_, q⟩
    obtain ⟨u1, o1⟩ := o1
    obtain ⟨u2, o2⟩ := o2
    exact G.inj j k u1 u2 r o1 o2 h3 h4
  · have : a ≠ p := fun z => by rw [z, c] at e; cases e
    rw [put_ne this]
    exact G.ext a zs e
def frz (i : Nat) (ρ : En) : En := match ρ[i]? with
  | some (some (Sl.own ds)) => ρ.set i (some (.val (.list ds)))
  | _ => ρ
/-- a list of one's own becomes a value -/
theorem Good.freeze (i : Nat) (G : Good K H0 T0 σ ρ H T) : ∃ H' T', Good K H0 T0 σ (frz i ρ) H' T' ∧ ov H T = ov H' T' ∧ Same H H' := by
  unfold frz
  split
  · rename_i ds h
    obtain ⟨p, xs, a, b, c, f⟩ := G.own i ds h
    have hp := G.dis p xs b
    have sm : Same H (upd H p (.lst xs)) := same_new hp
    have ne : ∀ r ys, T r = some ys → r ≠ p → cut T p r = some ys := fun r ys e q => by unfold cut; rw [if_neg q]; exact e
    refine ⟨upd H p (.lst xs), cut T p, ⟨by rw [List.length_set]; exact G.len, fun j x q => ?_, fun j x q => ?_, fun j k as bs r h1 h2 h3 h4 => ?_, fun r ys e => ?_, fun r ys e => ?_, G.ex.trans sm⟩, ov_freeze b, sm⟩
    · rcases get_set q with ⟨e, q, _⟩ | ⟨e, q⟩
      · cases q
        subst e
        exact ⟨.ref p, a, .lst (SqL.of upd_same) (dpa_mono sm f)⟩
      · obtain ⟨v, g, k⟩ := G.val j x q
        exact ⟨v, g, dp_mono sm k⟩
    · rcases get_set q with ⟨e, q, _⟩ | ⟨e, q⟩
      · cases q
      · obtain ⟨r, ys, g, k, l, m⟩ := G.own j x q
        exact ⟨r, ys, g, ne r ys k fun z => e (G.inj j i x ds p q h (z ▸ g) a), l, dpa_mono sm m⟩
    · rcases get_set h1 with ⟨_, q, _⟩ | ⟨_, q1⟩
      · cases q
      · rcases get_set h2 with ⟨_, q, _⟩ | ⟨_, q2⟩
        · cases q
        · exact G.inj j k as bs r q1 q2 h3 h4
    · unfold cut at e
      split at e
      · cases e
      · rename_i q
        rw [upd_ne q]
        exact G.dis r ys e
    · exact ne r ys (G.ext r ys e) fun z => by rw [z, c] at e; cases e
  · exact ⟨H, T, G, rfl, Same.refl H⟩
end
end DD

set_option Elab.async false
set_option linter.all false
set_option maxRecDepth 100000
set_option maxHeartbeats 2000000
namespace DD
open PySem PySem.Spec PyProof.Rows L2

inductive Fl where
  | nx (ρ : En)
  | rt (d : D)
  | bk (ρ : En)
  | ct (ρ : En)

section
variable (K : PySem.W.Frag)
structure ET (te : TE) (m : En → Option D) : Prop where
  run : ∀ {H0 : Hp} {T0 : Ov} {σ : L2.St} {ρ : En} {H : Hp} {T : Ov} {d : D}, Good K H0 T0 σ ρ H T → m ρ = some d →
    ∀ Q : VK, (∀ v H', Same H H' → Dis H' T → Dp K H' v d → Q v (ov H' T)) → te σ (ov H T) Q
structure FL (te : TE) (m : En → Option (List D)) : Prop where
  run : ∀ {H0 : Hp} {T0 : Ov} {σ : L2.St} {ρ : En} {H : Hp} {T : Ov} {ds : List D}, Good K H0 T0 σ ρ H T → m ρ = some ds →
    ∀ Q : VK, (∀ p xs H', Same H H' → Dis H' T → ov H' T p = none → DpAll K H' xs ds → Q (.ref p) (upd (ov H' T) p (.lst xs))) → te σ (ov H T) Q
structure TTm (tt : TT) (m : En → Option Bool) : Prop where
  run : ∀ {H0 : Hp} {T0 : Ov} {σ : L2.St} {ρ : En} {H : Hp} {T : Ov} {b : Bool}, Good K H0 T0 σ ρ H T → m ρ = some b →
    ∀ Q : Bool → Hp → Prop, (∀ H', Same H H' → Dis H' T → Q b (ov H' T)) → tt σ (ov H T) Q
structure TAm (ta : TA) (m : En → Option (List D)) : Prop where
  run : ∀ {H0 : Hp} {T0 : Ov} {σ : L2.St} {ρ : En} {H : Hp} {T : Ov} {ds : List D}, Good K H0 T0 σ ρ H T → m ρ = some ds →
    ∀ Q : List V → Hp → Prop, (∀ vs H', Same H H' → Dis H' T → DpAll K H' vs ds → Q vs (ov H' T)) → ta σ (ov H T) Q
structure RD (r : R2) (f : D → D → Option D) : Prop where
  run : ∀ {H : Hp} {T : Ov} {x y : V} {a b d : D}, Dis H T → Dp K H x a → Dp K H y b → f a b = some d →
    ∀ Q : VK, (∀ v H', Same H H' → Dis H' T → Dp K H' v d → Q v (ov H' T)) → r x y (ov H T) Q
structure UD (r : V → Hp → VK → Prop) (f : D → Option D) : Prop where
  run : ∀ {H : Hp} {T : Ov} {x : V} {a d : D}, Dis H T → Dp K H x a → f a = some d →
    ∀ Q : VK, (∀ v H', Same H H' → Dis H' T → Dp K H' v d → Q v (ov H' T)) → r x (ov H T) Q
structure CD (r : List V → Hp → VK → Prop) (f : List D → Option D) : Prop where
  run : ∀ {H : Hp} {T : Ov} {vs : List V} {ds : List D} {d : D}, Dis H T → DpAll K H vs ds → f ds = some d →
    ∀ Q : VK, (∀ v H', Same H H' → Dis H' T → Dp K H' v d → Q v (ov H' T)) → r vs (ov H T) Q
structure CL (r : List V → Hp → VK → Prop) (f : List D → Option (List D)) : Prop where
  run : ∀ {H : Hp} {T : Ov} {vs : List V} {ds es : List D}, Dis H T → DpAll K H vs ds → f ds = some es →
    ∀ Q : VK, (∀ p xs H', Same H H' → Dis H' T → ov H' T p = none → DpAll K H' xs es → Q (.ref p) (upd (ov H' T) p (.lst xs))) → r vs (ov H T) Q
/-- a target; vs: the slots that it may change -/
structure TGm (vs : List Nat) (g : TG) (m : D → En → Option En) : Prop where
  run : ∀ {H0 : Hp} {T0 : Ov} {σ : L2.St} {ρ ρ2 : En} {H : Hp} {T : Ov} {v : V} {d : D}, Good K H0 T0 σ ρ H T → Dp K H v d → m d ρ = some ρ2 →
    ∀ Q : L2.St → Hp → Prop, (∀ σ2 H', Good K H0 T0 σ2 ρ2 H' T → Same H H' → wipe σ2 vs = wipe σ vs → Q σ2 (ov H' T)) → g v σ (ov H T) Q
structure TGsm (vs : List Nat) (g : TGs) (m : List D → En → Option En) : Prop where
  run : ∀ {H0 : Hp} {T0 : Ov} {σ : L2.St} {ρ ρ2 : En} {H : Hp} {T : Ov} {xs : List V} {ds : List D}, Good K H0 T0 σ ρ H T → DpAll K H xs ds → m ds ρ = some ρ2 →
    ∀ Q : L2.St → Hp → Prop, (∀ σ2 H', Good K H0 T0 σ2 ρ2 H' T → Same H H' → wipe σ2 vs = wipe σ vs → Q σ2 (ov H' T)) → g xs σ (ov H T) Q
/-- what is walked: the data that come -/
structure Wk (J : It) (Hm : Hp) (ds : List D) : Prop where
  go : ∀ {H : Hp} {T : Ov} (i : Nat), Same Hm H → Dis H T → i < ds.length → J.go i (ov H T)
  stop : ∀ {H : Hp} {T : Ov}, Same Hm H → Dis H T → J.stop ds.length (ov H T)
  yld : ∀ {H : Hp} {T : Ov} (i : Nat) {x : V} {Hc : Hp} {d : D}, Same Hm H → Dis H T → ds[i]? = some d → J.yld i (ov H T) x Hc → ∃ H2, Hc = ov H2 T ∧ Same H H2 ∧ Dis H2 T ∧ Dp K H2 x d
structure IT (wi : TI) (m : En → Option (List D)) : Prop where
  run : ∀ {H0 : Hp} {T0 : Ov} {σ : L2.St} {ρ : En} {H : Hp} {T : Ov} {ds : List D}, Good K H0 T0 σ ρ H T → m ρ = some ds →
    ∀ R : It → Hp → Prop, (∀ J H', Same H H' → Dis H' T → Wk K J H' ds → R J (ov H' T)) → wi σ (ov H T) R
def FlOk (H0 : Hp) (T0 : Ov) (E : Ends) : Fl → Prop
  | .nx ρ => ∀ σ H T, Good K H0 T0 σ ρ H T → E.nx σ (ov H T)
  | .bk ρ => ∀ σ H T, Good K H0 T0 σ ρ H T → E.bk σ (ov H T)
  | .ct ρ => ∀ σ H T, Good K H0 T0 σ ρ H T → E.ct σ (ov H T)
  | .rt d => ∀ v H T, Same H0 H → Dis H T → Ext T0 T → Dp K H v d → E.rt v (ov H T)
structure TSm (t : TS) (m : En → Option Fl) : Prop where
  run : ∀ {H0 : Hp} {T0 : Ov} {σ : L2.St} {ρ : En} {H : Hp} {T : Ov} {f : Fl}, Good K H0 T0 σ ρ H T → m ρ = some f → ∀ E : Ends, FlOk K H0 T0 E f → t E σ (ov H T)
/-- a def's promise by its mirror -/
def spM (n : Nat) (m : List D → Option D) : Sp := fun vs Hx Q _ => ∃ ds d H T, DpAll K H vs ds ∧ ds.length = n ∧ m ds = some d ∧ Hx = ov H T ∧ Dis H T ∧ ∀ v H', Same H H' → Dis H' T → Dp K H' v d → Q v (ov H' T)
end

/-! ### mirrors of expressions -/
def mVar (i : Nat) : En → Option D := fun ρ => match ρ[i]? with
  | some (some (.val d)) => some d
  | _ => none
def mC (d : D) : En → Option D := fun _ => some d
def mOp (f : D → D → Option D) (a b : En → Option D) : En → Option D := fun ρ => (a ρ).bind fun x => (b ρ).bind fun y => f x y
def mUn (f : D → Option D) (a : En → Option D) : En → Option D := fun ρ => (a ρ).bind f
def mList (a : En → Option (List D)) : En → Option D := fun ρ => (a ρ).map PyData.list
def mNil : En → Option (List D) := fun _ => some []
def mCons (a : En → Option D) (b : En → Option (List D)) : En → Option (List D) := fun ρ => (a ρ).bind fun x => (b ρ).map fun y => x :: y
def cap : Nat := 100000
def sized (ds : List D) : Option (List D) := if ds.length ≤ cap then some ds else none
def mTup (a : En → Option (List D)) : En → Option D := fun ρ => (a ρ).bind fun x => (sized x).map PyData.tuple
def mLst (a : En → Option (List D)) : En → Option (List D) := fun ρ => (a ρ).bind sized
def mCall (f : List D → Option D) (a : En → Option (List D)) : En → Option D := fun ρ => (a ρ).bind f
def mCallL (f : List D → Option (List D)) (a : En → Option (List D)) : En → Option (List D) := fun ρ => (a ρ).bind f
def isB : D → Option Bool
  | .bool b => some b
  | _ => none
def mTest (a : En → Option D) : En → Option Bool := fun ρ => (a ρ).bind isB
def mAnd (a b : En → Option Bool) : En → Option Bool := fun ρ => (a ρ).bind fun x => if x = true then b ρ else some false
def mOr (a b : En → Option Bool) : En → Option Bool := fun ρ => (a ρ).bind fun x => if x = true then some true else b ρ
def mNot (a : En → Option Bool) : En → Option Bool := fun ρ => (a ρ).map (!·)
def mAndV (a b : En → Option D) : En → Option D := fun ρ => (a ρ).bind fun x => (isB x).bind fun c => if c = true then b ρ else some (.bool false)
def mOrV (a b : En → Option D) : En → Option D := fun ρ => (a ρ).bind fun x => (isB x).bind fun c => if c = true then some (.bool true) else b ρ
def mNotV (a : En → Option D) : En → Option D := fun ρ => (a ρ).bind fun x => (isB x).map fun c => .bool (!c)
def mIfE (c : En → Option Bool) (a b : En → Option D) : En → Option D := fun ρ => (c ρ).bind fun x => if x = true then a ρ else b ρ
def mChain (f g : D → D → Option D) (a b c : En → Option D) : En → Option D := fun ρ => (a ρ).bind fun x => (b ρ).bind fun y => (f x y).bind fun z => (isB z).bind fun k => if k = true then (c ρ).bind fun w => g y w else some (.bool false)

section
variable {K : PySem.W.Frag} {ta tb tc te : TE} {ma mb mc : En → Option D} {r r' : R2} {f g : D → D → Option D}
theorem bind_some {α β : Type} {o : Option α} {k : α → Option β} {b : β} (h : o.bind k = some b) : ∃ a, o = some a ∧ k a = some b := by
  cases o with
  | none => cases h
  | some a => exact ⟨a, rfl, h⟩
theorem map_some {α β : Type} {o : Option α} {k : α → β} {b : β} (h : o.map k = some b) : ∃ a, o = some a ∧ k a = b := by
  cases o with
  | none => cases h
  | some a => exact ⟨a, rfl, Option.some.inj h⟩
theorem sized_some {ds es : List D} (h : sized ds = some es) : es = ds ∧ ds.length ≤ cap := by
  unfold sized at h
  split at h
  · exact ⟨(Option.some.inj h).symm, by assumption⟩
  · cases h
theorem cap_line {n : Nat} (h : n ≤ cap) : n ≤ sizeLine := Nat.le_trans h (by decide)
theorem cap_lt {n : Nat} (h : n ≤ cap) : n < sizeLine := Nat.lt_of_le_of_lt h (by decide)
theorem isB_some {d : D} {b : Bool} (h : isB d = some b) : d = .bool b := by
  cases d <;> simp [isB] at h
  subst h; rfl
theorem dp_bool {H : Hp} {v : V} {b : Bool} (h : Dp K H v (.bool b)) : v = .bl b := by cases h; rfl

theorem ev_var (i : Nat) : ET K (tVar i) (mVar i) := by
  refine ⟨fun {H0 T0 σ ρ H T d} G h Q q => ?_⟩
  unfold mVar at h
  split at h
  · rename_i x e
    cases h
    obtain ⟨v, a, b⟩ := G.val i d e
    exact ⟨v, a, q v H (Same.refl H) G.dis b⟩
  · cases h
theorem ev_c {v : V} {d : D} (h : ∀ H, Dp K H v d) : ET K (tC v) (mC d) := by
  refine ⟨fun {H0 T0 σ ρ H T e} G hh Q q => ?_⟩
  cases hh
  exact q v H (Same.refl H) G.dis (h H)
theorem ev_int {i : Int} : ET K (tC (.int i)) (mC (.int i)) := ev_c fun _ => .int i
theorem ev_str {x : Str} : ET K (tC (.str x)) (mC (.str x)) := ev_c fun _ => .str x
theorem ev_bl {b : Bool} : ET K (tC (.bl b)) (mC (.bool b)) := ev_c fun _ => .bl b
theorem ev_non : ET K (tC .non) (mC .none) := ev_c fun _ => .non
theorem ev_op (hr : RD K r f) (ha : ET K ta ma) (hb : ET K tb mb) : ET K (tOp r ta tb) (mOp f ma mb) := by
  refine ⟨fun {H0 T0 σ ρ H T d} G h Q q => ?_⟩
  obtain ⟨x, hx, h⟩ := bind_some h
  obtain ⟨y, hy, h⟩ := bind_some h
  refine ha.run G hx _ fun v H1 s1 d1 p1 => ?_
  refine hb.run (G.mono s1 d1) hy _ fun u H2 s2 d2 p2 => ?_
  exact hr.run d2 (dp_mono s2 p1) p2 h Q fun w H3 s3 d3 p3 => q w H3 ((s1.trans s2).trans s3) d3 p3
theorem ev_un {ru : V → Hp → VK → Prop} {fu : D → Option D} (hr : UD K ru fu) (ha : ET K ta ma) : ET K (tUn ru ta) (mUn fu ma) := by
  refine ⟨fun {H0 T0 σ ρ H T d} G h Q q => ?_⟩
  obtain ⟨x, hx, h⟩ := bind_some h
  refine ha.run G hx _ fun v H1 s1 d1 p1 => ?_
  exact hr.run d1 p1 h Q fun w H3 s3 d3 p3 => q w H3 (s1.trans s3) d3 p3
theorem ev_chain (hr : RD K r f) (hr' : RD K r' g) (ha : ET K ta ma) (hb : ET K tb mb) (hc : ET K tc mc) : ET K (tChain r r' ta tb tc) (mChain f g ma mb mc) := by
  refine ⟨fun {H0 T0 σ ρ H T d} G h Q q => ?_⟩
  obtain ⟨x, hx, h1⟩ := bind_some h
  obtain ⟨y, hy, h2⟩ := bind_some h1
  obtain ⟨z, hz, h3⟩ := bind_some h2
  obtain ⟨k, hk, h4⟩ := bind_some h3
  clear h h1 h2 h3
  obtain rfl := isB_some hk
  refine ha.run G hx _ fun v H1 s1 d1 p1 => ?_
  refine hb.run (G.mono s1 d1) hy _ fun u H2 s2 d2 p2 => ?_
  refine hr.run d2 (dp_mono s2 p1) p2 hz _ fun w H3 s3 d3 p3 => ?_
  cases dp_bool p3
  refine ⟨k, rfl, ?_⟩
  have G3 := (G.mono s1 d1).mono (s2.trans s3) d3
  cases k with
  | true =>
    rw [if_pos rfl] at h4 ⊢
    obtain ⟨w', hw, h5⟩ := bind_some h4
    refine hc.run G3 hw _ fun u4 H4 s4 d4 p4 => ?_
    exact hr'.run d4 (dp_mono (s3.trans s4) p2) p4 h5 Q fun w5 H5 s5 d5 p5 => q w5 H5 ((s1.trans s2).trans ((s3.trans s4).trans s5)) d5 p5
  | false =>
    rw [if_neg Bool.false_ne_true] at h4 ⊢
    cases h4
    exact q _ H3 ((s1.trans s2).trans s3) d3 (.bl false)
theorem ev_list (h : FL K te (m : En → Option (List D))) : ET K te (mList m) := by
  refine ⟨fun {H0 T0 σ ρ H T d} G hh Q q => ?_⟩
  obtain ⟨ds, hd, e⟩ := map_some hh
  subst e
  refine h.run G hd Q fun p xs H' s1 d1 n1 p1 => ?_
  obtain ⟨nT, nH⟩ := ov_free n1
  rw [upd_ov nT]
  exact q _ _ (s1.trans (same_new nH)) (dis_upd d1 nT) (.lst (SqL.of upd_same) (dpa_mono (same_new nH) p1))
theorem ea_nil : TAm K tNil mNil := ⟨fun {H0 T0 σ ρ H T ds} G h Q q => by cases h; exact q [] H (Same.refl H) G.dis .nil⟩
theorem ea_cons {tr : TA} {mr : En → Option (List D)} (ha : ET K ta ma) (hr : TAm K tr mr) : TAm K (tCons ta tr) (mCons ma mr) := by
  refine ⟨fun {H0 T0 σ ρ H T ds} G h Q q => ?_⟩
  obtain ⟨x, hx, h⟩ := bind_some h
  obtain ⟨y, hy, e⟩ := map_some h
  subst e
  refine ha.run G hx _ fun v H1 s1 d1 p1 => ?_
  exact hr.run (G.mono s1 d1) hy _ fun vs H2 s2 d2 p2 => q _ H2 (s1.trans s2) d2 (.cons (dp_mono s2 p1) p2)
theorem ev_tup {t : TA} {m : En → Option (List D)} (ha : TAm K t m) : ET K (tTup t) (mTup m) := by
  refine ⟨fun {H0 T0 σ ρ H T d} G h Q q => ?_⟩
  obtain ⟨x, hx, h⟩ := bind_some h
  obtain ⟨y, hy, e⟩ := map_some h
  subst e
  obtain ⟨rfl, hz⟩ := sized_some hy
  refine ha.run G hx _ fun vs H1 s1 d1 p1 => ?_
  refine ⟨cap_line (by rw [dpa_len p1]; exact hz), fun p np => ?_⟩
  obtain ⟨nT, nH⟩ := ov_free np
  rw [upd_ov nT]
  exact q _ _ (s1.trans (same_new nH)) (dis_upd d1 nT) (.tup (SqT.of upd_same) (dpa_mono (same_new nH) p1))
theorem fl_lst {t : TA} {m : En → Option (List D)} (ha : TAm K t m) : FL K (tLst t) (mLst m) := by
  refine ⟨fun {H0 T0 σ ρ H T d} G h Q q => ?_⟩
  obtain ⟨x, hx, h⟩ := bind_some h
  obtain ⟨rfl, hz⟩ := sized_some h
  refine ha.run G hx _ fun vs H1 s1 d1 p1 => ?_
  exact ⟨cap_line (by rw [dpa_len p1]; exact hz), fun p np => q p vs H1 s1 d1 np p1⟩
theorem ev_cb {rc : List V → Hp → VK → Prop} {fc : List D → Option D} {t : TA} {m : En → Option (List D)} (hc : CD K rc fc) (ha : TAm K t m) : ET K (tCB rc t) (mCall fc m) := by
  refine ⟨fun {H0 T0 σ ρ H T d} G h Q q => ?_⟩
  obtain ⟨x, hx, h⟩ := bind_some h
  refine ha.run G hx _ fun vs H1 s1 d1 p1 => ?_
  exact hc.run d1 p1 h Q fun w H3 s3 d3 p3 => q w H3 (s1.trans s3) d3 p3
theorem fl_cb {rc : List V → Hp → VK → Prop} {fc : List D → Option (List D)} {t : TA} {m : En → Option (List D)} (hc : CL K rc fc) (ha : TAm K t m) : FL K (tCB rc t) (mCallL fc m) := by
  refine ⟨fun {H0 T0 σ ρ H T d} G h Q q => ?_⟩
  obtain ⟨x, hx, h⟩ := bind_some h
  refine ha.run G hx _ fun vs H1 s1 d1 p1 => ?_
  exact hc.run d1 p1 h Q fun p xs H3 s3 d3 n3 p3 => q p xs H3 (s1.trans s3) d3 n3 p3
theorem ev_call {n : Nat} {mf : List D → Option D} {t : TA} {m : En → Option (List D)} {E : XK} (ha : TAm K t m) : ET K (tCall (spM K n mf) [] E t) (mCall (fun ds => if ds.length = n then mf ds else none) m) := by
  refine ⟨fun {H0 T0 σ ρ H T d} G h Q q => ?_⟩
  obtain ⟨x, hx, h⟩ := bind_some h
  refine ha.run G hx _ fun vs H1 s1 d1 p1 => ?_
  split at h
  · rename_i hn
    rw [List.append_nil]
    exact ⟨x, d, H1, T, p1, hn, h, rfl, d1, fun w H3 s3 d3 p3 => q w H3 (s1.trans s3) d3 p3⟩
  · cases h

/-! ### tests -/
variable {t u : TT} {m1 m2 : En → Option Bool}
theorem et_test (h : ET K ta ma) : TTm K (tTest ta) (mTest ma) := by
  refine ⟨fun {H0 T0 σ ρ H T b} G hh Q q => ?_⟩
  obtain ⟨x, hx, hb⟩ := bind_some hh
  obtain rfl := isB_some hb
  exact h.run G hx _ fun v H1 s1 d1 p1 => ⟨b, dp_bool p1, q H1 s1 d1⟩
theorem et_B (h : ET K ta ma) : TTm K (tB ta) (mTest ma) := by
  refine ⟨fun {H0 T0 σ ρ H T b} G hh Q q => ?_⟩
  obtain ⟨x, hx, hb⟩ := bind_some hh
  obtain rfl := isB_some hb
  exact h.run G hx _ fun v H1 s1 d1 p1 => ⟨b, dp_bool p1, q H1 s1 d1⟩
theorem et_and (h1 : TTm K t m1) (h2 : TTm K u m2) : TTm K (tAnd t u) (mAnd m1 m2) := by
  refine ⟨fun {H0 T0 σ ρ H T b} G hh Q q => ?_⟩
  obtain ⟨x, hx, hb⟩ := bind_some hh
  refine h1.run G hx _ fun H1 s1 d1 => ?_
  cases x with
  | true =>
    rw [if_pos rfl] at hb ⊢
    exact h2.run (G.mono s1 d1) hb _ fun H2 s2 d2 => q H2 (s1.trans s2) d2
  | false =>
    rw [if_neg Bool.false_ne_true] at hb ⊢
    cases hb
    exact q H1 s1 d1
theorem et_or (h1 : TTm K t m1) (h2 : TTm K u m2) : TTm K (tOr t u) (mOr m1 m2) := by
  refine ⟨fun {H0 T0 σ ρ H T b} G hh Q q => ?_⟩
  obtain ⟨x, hx, hb⟩ := bind_some hh
  refine h1.run G hx _ fun H1 s1 d1 => ?_
  cases x with
  | true =>
    rw [if_pos rfl] at hb ⊢
    cases hb
    exact q H1 s1 d1
  | false =>
    rw [if_neg Bool.false_ne_true] at hb ⊢
    exact h2.run (G.mono s1 d1) hb _ fun H2 s2 d2 => q H2 (s1.trans s2) d2
theorem et_not (h1 : TTm K t m1) : TTm K (tNot t) (mNot m1) := by
  refine ⟨fun {H0 T0 σ ρ H T b} G hh Q q => ?_⟩
  obtain ⟨x, hx, hb⟩ := map_some hh
  subst hb
  exact h1.run G hx _ fun H1 s1 d1 => q H1 s1 d1
theorem ev_andV (ha : ET K ta ma) (hb : ET K tb mb) : ET K (tAndV ta tb) (mAndV ma mb) := by
  refine ⟨fun {H0 T0 σ ρ H T d} G h Q q => ?_⟩
  obtain ⟨x, hx, h1⟩ := bind_some h
  obtain ⟨k, hk, h2⟩ := bind_some h1
  clear h h1
  rename _ => h
  obtain rfl := isB_some hk
  refine ha.run G hx _ fun v H1 s1 d1 p1 => ⟨k, dp_bool p1, ?_⟩
  cases k with
  | true =>
    rw [if_pos rfl] at h ⊢
    exact hb.run (G.mono s1 d1) h _ fun u H2 s2 d2 p2 => q u H2 (s1.trans s2) d2 p2
  | false =>
    rw [if_neg Bool.false_ne_true] at h ⊢
    cases h
    exact q _ H1 s1 d1 (.bl false)
theorem ev_orV (ha : ET K ta ma) (hb : ET K tb mb) : ET K (tOrV ta tb) (mOrV ma mb) := by
  refine ⟨fun {H0 T0 σ ρ H T d} G h Q q => ?_⟩
  obtain ⟨x, hx, h1⟩ := bind_some h
  obtain ⟨k, hk, h2⟩ := bind_some h1
  clear h h1
  rename _ => h
  obtain rfl := isB_some hk
  refine ha.run G hx _ fun v H1 s1 d1 p1 => ⟨k, dp_bool p1, ?_⟩
  cases k with
  | true =>
    rw [if_pos rfl] at h ⊢
    cases h
    exact q _ H1 s1 d1 (.bl true)
  | false =>
    rw [if_neg Bool.false_ne_true] at h ⊢
    exact hb.run (G.mono s1 d1) h _ fun u H2 s2 d2 p2 => q u H2 (s1.trans s2) d2 p2
theorem ev_notV (ha : ET K ta ma) : ET K (tNotV ta) (mNotV ma) := by
  refine ⟨fun {H0 T0 σ ρ H T d} G h Q q => ?_⟩
  obtain ⟨x, hx, h1⟩ := bind_some h
  obtain ⟨k, hk, h2⟩ := map_some h1
  clear h h1
  subst h2
  obtain rfl := isB_some hk
  exact ha.run G hx _ fun v H1 s1 d1 p1 => ⟨k, dp_bool p1, q _ H1 s1 d1 (.bl _)⟩
theorem ev_if (hc : TTm K t m1) (ha : ET K ta ma) (hb : ET K tb mb) : ET K (tIf t ta tb) (mIfE m1 ma mb) := by
  refine ⟨fun {H0 T0 σ ρ H T d} G h Q q => ?_⟩
  obtain ⟨x, hx, h⟩ := bind_some h
  refine hc.run G hx _ fun H1 s1 d1 => ?_
  cases x with
  | true =>
    rw [if_pos rfl] at h ⊢
    exact ha.run (G.mono s1 d1) h _ fun u H2 s2 d2 p2 => q u H2 (s1.trans s2) d2 p2
  | false =>
    rw [if_neg Bool.false_ne_true] at h ⊢
    exact hb.run (G.mono s1 d1) h _ fun u H2 s2 d2 p2 => q u H2 (s1.trans s2) d2 p2
end
end DD

set_option Elab.async false
set_option linter.all false
set_option maxRecDepth 100000
set_option maxHeartbeats 4000000
namespace DD
open PySem PySem.Spec PyProof.Rows L2

theorem tuple_mul1 (l : Addr) (items : Array Value) (n : Nat) (dd : Option Addr) (sl : Array (Option Value)) (x : Int) (u : Tok) (c0 : (decide (x < -(2 ^ 63)) || decide (x ≥ 2 ^ 63)) = false) (c1 : (items.isEmpty || x == 1) = true) :
    Meets (Builtin.«tuple.__mul__» ⟨[.ref l, .int x u], []⟩) (fun _ R s => s.heap.get? l = some { cls := .type "tuple", dict := dd, data := .seq items n, slots := sl } ∧
      R (.ok (.ret (Value.ref l))) s) :=
  .of_wp fun prog w A R s h => by
    obtain ⟨hp, g, d, tk, os⟩ := s
    obtain ⟨hl, h⟩ := h
    have f1 := AutoSeq1.idx_int
    wp_walk using wpAny_loadPart' hl
    repeat (first
      | (refine wpAny_ite_false (decide_eq_false (by rw [c0]; exact Bool.false_ne_true)) ?_; wp_walk using wpAny_loadPart' hl)
      | (refine wpAny_ite_true (decide_eq_true c1) ?_; wp_walk using wpAny_loadPart' hl))
    exact ⟨_, rfl, h⟩
theorem tuple_mul0 (l : Addr) (items : Array Value) (n : Nat) (dd : Option Addr) (sl : Array (Option Value)) (x : Int) (u : Tok) (c0 : (decide (x < -(2 ^ 63)) || decide (x ≥ 2 ^ 63)) = false) (c1 : (items.isEmpty || x == 1) = false) (c2 : (decide (x ≤ 0) || items.isEmpty) = true) :
    Meets (Builtin.«tuple.__mul__» ⟨[.ref l, .int x u], []⟩) (fun _ R s => s.heap.get? l = some { cls := .type "tuple", dict := dd, data := .seq items n, slots := sl } ∧
      R (.ok (.ret (Value.ref s.heap.objs.size))) { s with heap := s.heap.push { cls := Value.type "tuple", data := Data.seq #[] }, toks := s.toks }) :=
  .of_wp fun prog w A R s h => by
    obtain ⟨hp, g, d, tk, os⟩ := s
    obtain ⟨hl, h⟩ := h
    have f1 := AutoSeq1.idx_int
    wp_walk using wpAny_loadPart' hl
    repeat (first
      | (refine wpAny_ite_false (decide_eq_false (by rw [c0]; exact Bool.false_ne_true)) ?_; wp_walk using wpAny_loadPart' hl)
      | (refine wpAny_ite_false (decide_eq_false (by rw [c1]; exact Bool.false_ne_true)) ?_; wp_walk using wpAny_loadPart' hl)
      | (refine wpAny_ite_true (decide_eq_true c2) ?_; wp_walk using wpAny_loadPart' hl))
    exact ⟨_, rfl, h⟩

section
variable {X : Cx}
def rRep0 (K : PySem.W.Frag) : R2 := fun x y H Q => ∃ l k xs, x = .ref l ∧ y = .int k ∧ SqT K H l xs ∧ xs ≠ [] ∧ k ≤ 1 ∧ -1000 ≤ k ∧ (k = 1 → Q (.ref l) H) ∧ (k ≤ 0 → ∀ p, H p = none → Q (.ref p) (upd H p (.tup [])))
theorem op_rep0 : OpR X (binaryOp .Mult) (rRep0 X.K) := by
  intro pins s σ H x y v u Q I rx ry h
  obtain ⟨l, k, xs, rfl, rfl, hT, hne, h1, h2, q1, q0⟩ := h
  cases rx
  obtain ⟨t, rfl⟩ := ry
  obtain ⟨its, r, ⟨⟨cls, dd, data, sl⟩, ho, hc, n, hd⟩, hs⟩ := I.tuple hT
  simp only at hc hd
  subst hc hd
  have hle : its.length = xs.length := r.length.symm
  have hn : its ≠ [] := fun e => hne (by
    rw [e] at hle
    exact List.eq_nil_of_length_eq_zero hle.symm)
  have hi : its.toArray.isEmpty = false := by
    cases its with
    | nil => exact absurd rfl hn
    | cons a b => rfl
  have c0 : (decide (k < -(2 ^ 63)) || decide (k ≥ 2 ^ 63)) = false := by
    rw [decide_eq_false (by omega), decide_eq_false (by omega)] <;> rfl
  by_cases hk : k = 1
  · have c1 : (its.toArray.isEmpty || k == 1) = true := by
      rw [hi, Bool.false_or]
      exact beq_iff_eq.mpr hk
    refine wpAny_binaryOp_repeat_ref (T := "tuple") (U := "int") (by decide) ⟨_, ho, rfl⟩ (fun s' => typeIs_int s' k t) noFill_tuple_mul F.fills_int_mul F.slot_int_rmul repeat_tuple F.slot_int_index.lookup
      (call_meets F.slot_int_rmul (typeIs_int s k t) F.entry_int_rmul (F.args_int_rmul_2 _ _) (int_rmul_tuple k t l its.toArray n dd sl)
        ⟨ho, rfl, ⟨_, ho, rfl⟩, call_meets F.slot_tuple_mul ⟨_, ho, rfl⟩ F.entry_tuple_mul (F.args_tuple_mul_2 _ _) (tuple_mul1 l its.toArray n dd sl k t c0 c1) ⟨ho, ?_⟩⟩)
    exact ⟨.ref l, H, I, rfl, q1 hk⟩
  · have c1 : (its.toArray.isEmpty || k == 1) = false := by
      rw [hi, Bool.false_or]
      exact beq_eq_false_iff_ne.mpr hk
    have c2 : (decide (k ≤ 0) || its.toArray.isEmpty) = true := by
      rw [decide_eq_true (by omega)]
      rfl
    refine wpAny_binaryOp_repeat_ref (T := "tuple") (U := "int") (by decide) ⟨_, ho, rfl⟩ (fun s' => typeIs_int s' k t) noFill_tuple_mul F.fills_int_mul F.slot_int_rmul repeat_tuple F.slot_int_index.lookup
      (call_meets F.slot_int_rmul (typeIs_int s k t) F.entry_int_rmul (F.args_int_rmul_2 _ _) (int_rmul_tuple k t l its.toArray n dd sl)
        ⟨ho, rfl, ⟨_, ho, rfl⟩, call_meets F.slot_tuple_mul ⟨_, ho, rfl⟩ F.entry_tuple_mul (F.args_tuple_mul_2 _ _) (tuple_mul0 l its.toArray n dd sl k t c0 c1 c2) ⟨ho, ?_⟩⟩)
    refine ⟨.ref s.heap.objs.size, _, I.laid (t' := s.toks) (o := .tup []) (fun b ob q => Heap.get?_push_of_some _ q) (Nat.le_refl _) ?_, rfl, q0 (by omega) _ (I.hok.fresh (Nat.le_refl _))⟩
    exact ⟨Nat.zero_le _, [], .nil, IsTup.new _ _⟩
end

/-! ### operations on data -/
section
variable {K : PySem.W.Frag} {H : Hp} {T : Ov} {x y v : V} {a b d : D}
theorem dp_int {i : Int} (h : Dp K H v (.int i)) : v = .int i := by cases h; rfl
theorem dp_str {z : Str} (h : Dp K H v (.str z)) : v = .str z := by cases h; rfl
theorem dp_non (h : Dp K H v .none) : v = .non := by cases h; rfl
theorem dp_tup {ds : List D} (h : Dp K H v (.tuple ds)) : ∃ p xs, v = .ref p ∧ SqT K H p xs ∧ DpAll K H xs ds := by cases h with | tup a b => exact ⟨_, _, rfl, a, b⟩
theorem dp_lst {ds : List D} (h : Dp K H v (.list ds)) : ∃ p xs, v = .ref p ∧ SqL K H p xs ∧ DpAll K H xs ds := by cases h with | lst a b => exact ⟨_, _, rfl, a, b⟩
theorem sqt_ov {p : Addr} {xs : List V} (dis : Dis H T) (h : SqT K H p xs) : SqT K (ov H T) p xs := Same.sqt (same_ov dis) h
theorem sql_ov {p : Addr} {xs : List V} (dis : Dis H T) (h : SqL K H p xs) : SqL K (ov H T) p xs := (same_ov dis).seq h
theorem dp_ov (dis : Dis H T) (h : Dp K H v d) : Dp K (ov H T) v d := dp_mono (same_ov dis) h
/-- a new tuple -/
theorem tup_new {Q : VK} {p : Addr} {xs : List V} {ds : List D} {H1 : Hp} (s : Same H H1) (dis : Dis H1 T) (np : ov H1 T p = none) (g : DpAll K H1 xs ds)
    (q : ∀ v H', Same H H' → Dis H' T → Dp K H' v (.tuple ds) → Q v (ov H' T)) : Q (.ref p) (upd (ov H1 T) p (.tup xs)) := by
  obtain ⟨nT, nH⟩ := ov_free np
  rw [upd_ov nT]
  exact q _ _ (s.trans (same_new nH)) (dis_upd dis nT) (.tup (SqT.of upd_same) (dpa_mono (same_new nH) g))

def inW (i : Int) : Bool := decide (-(2 ^ 64) < i) && decide (i < 2 ^ 64)
theorem inW_of {i : Int} (h : inW i = true) : -(2 ^ 64) < i ∧ i < 2 ^ 64 := by
  unfold inW at h
  rw [Bool.and_eq_true] at h
  exact ⟨of_decide_eq_true h.1, of_decide_eq_true h.2⟩
def dAdd : D → D → Option D
  | .int i, .int j => some (.int (i + j))
  | .str p, .str q => if p.length + q.length ≤ cap then some (.str (p ++ q)) else none
  | .tuple p, .tuple q => if p.length + q.length ≤ cap then some (.tuple (p ++ q)) else none
  | _, _ => none
def dSub : D → D → Option D
  | .int i, .int j => some (.int (i - j))
  | _, _ => none
def dMul : D → D → Option D
  | .int i, .int j => if (inW i || inW j) = true then some (.int (i * j)) else none
  | .tuple p, .int k => if p ≠ [] ∧ p.length ≤ 1000 ∧ -1000 ≤ k ∧ k ≤ 1000 then some (.tuple (List.replicate k.toNat p).flatten) else none
  | _, _ => none
def dFdiv : D → D → Option D
  | .int i, .int j => if 0 < j ∧ j.natAbs.log2 < 9000 then some (.int (i / j)) else none
  | _, _ => none
def dMod : D → D → Option D
  | .int i, .int j => if 0 < j then some (.int (i % j)) else none
  | _, _ => none
def dPow : D → D → Option D
  | .int i, .int j => if 0 ≤ j ∧ j ≤ 1000000 ∧ i.natAbs < 2 ^ 64 then some (.int (i ^ j.toNat)) else none
  | _, _ => none
def dNeg : D → Option D
  | .int i => some (.int (-i))
  | _ => none
def dCmp (p : Int → Int → Bool) : D → D → Option D
  | .int i, .int j => some (.bool (p i j))
  | _, _ => none
def dEq (a b : D) : Option D := if (SeqAt.shaped a && SeqAt.shaped b) = true then some (.bool (PyData.eqv a b)) else none
def dNe (a b : D) : Option D := if (SeqAt.shaped a && SeqAt.shaped b) = true then some (.bool (!PyData.eqv a b)) else none
def dIs : D → D → Option D
  | .none, .none => some (.bool true)
  | .bool _, .none => some (.bool false)
  | .int _, .none => some (.bool false)
  | .str _, .none => some (.bool false)
  | .tuple _, .none => some (.bool false)
  | .list _, .none => some (.bool false)
  | .bool p, .bool q => some (.bool (decide (p = q)))
  | _, _ => none
def dIsNot (a b : D) : Option D := (dIs a b).bind fun z => (isB z).map fun c => .bool (!c)

def rAddA (K : PySem.W.Frag) : R2 := fun x y H Q => rI0 (fun i j => .int (i + j)) x y H Q ∨ (∃ i j, x = V.str i ∧ y = .str j ∧ i.length + j.length ≤ sizeLine ∧ Q (.str (i ++ j)) H) ∨ rCatA K x y H Q
theorem op_addA {X : Cx} : OpR X (binaryOp .Add) (rAddA X.K) := op_add.or (op_add_str.or op_catA)
theorem rd_add : RD K (rAddA K) dAdd := by
  refine ⟨fun {H T x y a b d} dis ha hb h Q q => ?_⟩
  unfold dAdd at h
  split at h
  · cases h
    cases dp_int ha
    cases dp_int hb
    exact .inl ⟨_, _, rfl, rfl, q _ H (Same.refl H) dis (.int _)⟩
  · split at h
    · rename_i hz
      cases h
      cases dp_str ha
      cases dp_str hb
      exact .inr (.inl ⟨_, _, rfl, rfl, cap_line hz, q _ H (Same.refl H) dis (.str _)⟩)
    · cases h
  · split at h
    · rename_i p q' hz
      cases h
      obtain ⟨p1, xs, rfl, hx, gx⟩ := dp_tup ha
      obtain ⟨p2, ys, rfl, hy, gy⟩ := dp_tup hb
      refine .inr (.inr ⟨p1, p2, xs, ys, rfl, rfl, sqt_ov dis hx, sqt_ov dis hy, cap_line (by rw [dpa_len gx, dpa_len gy]; exact hz), fun e => ?_, fun _ e => ?_, fun _ _ r nr => ?_⟩)
      · rw [(dpa_nil_iff gx).mpr e, List.nil_append] at q
        exact q _ H (Same.refl H) dis hb
      · rw [(dpa_nil_iff gy).mpr e, List.append_nil] at q
        exact q _ H (Same.refl H) dis ha
      · exact tup_new (Same.refl H) dis nr (dpa_append gx gy) q
    · cases h
  · cases h
theorem rd_I0 {g : Int → Int → V} {f : D → D → Option D} (e : ∀ i j, ∃ d, f (.int i) (.int j) = some d ∧ ∀ H, Dp K H (g i j) d) (o : ∀ a b d, f a b = some d → ∃ i j, a = .int i ∧ b = .int j) : RD K (rI0 g) f := by
  refine ⟨fun {H T x y a b d} dis ha hb h Q q => ?_⟩
  obtain ⟨i, j, rfl, rfl⟩ := o a b d h
  obtain ⟨d', h', g'⟩ := e i j
  rw [h] at h'
  cases h'
  cases dp_int ha
  cases dp_int hb
  exact ⟨i, j, rfl, rfl, q _ H (Same.refl H) dis (g' H)⟩
theorem rd_sub : RD K (rI0 fun i j => .int (i - j)) dSub := rd_I0 (fun i j => ⟨_, rfl, fun _ => .int _⟩) fun a b d h => by
  unfold dSub at h
  split at h
  · exact ⟨_, _, rfl, rfl⟩
  · cases h
theorem rd_cmp {p : Int → Int → Bool} : RD K (rI0 fun i j => .bl (p i j)) (dCmp p) := rd_I0 (fun i j => ⟨_, rfl, fun _ => .bl _⟩) fun a b d h => by
  unfold dCmp at h
  split at h
  · exact ⟨_, _, rfl, rfl⟩
  · cases h
theorem rd_lt : RD K (rI0 fun i j => .bl (decide (i < j))) (dCmp fun i j => decide (i < j)) := rd_cmp
theorem rd_le : RD K (rI0 fun i j => .bl (decide (i ≤ j))) (dCmp fun i j => decide (i ≤ j)) := rd_cmp
theorem rd_gt : RD K (rI0 fun i j => .bl (decide (j < i))) (dCmp fun i j => decide (j < i)) := rd_cmp
theorem rd_ge : RD K (rI0 fun i j => .bl (decide (j ≤ i))) (dCmp fun i j => decide (j ≤ i)) := rd_cmp
theorem rd_I {C : Int → Int → Prop} {g : Int → Int → V} {f : D → D → Option D} (o : ∀ a b d, f a b = some d → ∃ i j, a = .int i ∧ b = .int j ∧ C i j ∧ ∀ H, Dp K H (g i j) d) : RD K (rI C g) f := by
  refine ⟨fun {H T x y a b d} dis ha hb h Q q => ?_⟩
  obtain ⟨i, j, rfl, rfl, c, g'⟩ := o a b d h
  cases dp_int ha
  cases dp_int hb
  exact ⟨i, j, rfl, rfl, c, q _ H (Same.refl H) dis (g' H)⟩
theorem rd_fdiv : RD K (rI CDivW fun i j => .int (i / j)) dFdiv := rd_I fun a b d h => by
  unfold dFdiv at h
  split at h
  · split at h
    · rename_i c
      cases h
      exact ⟨_, _, rfl, rfl, c, fun _ => .int _⟩
    · cases h
  · cases h
theorem rd_mod : RD K (rI (fun _ j => 0 < j) fun i j => .int (i % j)) dMod := rd_I fun a b d h => by
  unfold dMod at h
  split at h
  · split at h
    · rename_i c
      cases h
      exact ⟨_, _, rfl, rfl, c, fun _ => .int _⟩
    · cases h
  · cases h
theorem rd_pow : RD K (rI CPow fun i j => .int (i ^ j.toNat)) dPow := rd_I fun a b d h => by
  unfold dPow at h
  split at h
  · split at h
    · rename_i c
      cases h
      exact ⟨_, _, rfl, rfl, c, fun _ => .int _⟩
    · cases h
  · cases h
theorem ud_neg : UD K (rU fun i => .int (-i)) dNeg := by
  refine ⟨fun {H T x a d} dis ha h Q q => ?_⟩
  unfold dNeg at h
  split at h
  · cases h
    cases dp_int ha
    exact ⟨_, rfl, q _ H (Same.refl H) dis (.int _)⟩
  · cases h
def rMulA (K : PySem.W.Frag) : R2 := fun x y H Q => rI CMul (fun i j => .int (i * j)) x y H Q ∨ rRepT K x y H Q ∨ rRep0 K x y H Q
theorem op_mulA {X : Cx} : OpR X (binaryOp .Mult) (rMulA X.K) := op_mul.or (op_repT.or op_rep0)
theorem rd_mul : RD K (rMulA K) dMul := by
  refine ⟨fun {H T x y a b d} dis ha hb h Q q => ?_⟩
  unfold dMul at h
  split at h
  · split at h
    · rename_i c
      cases h
      cases dp_int ha
      cases dp_int hb
      refine .inl ⟨_, _, rfl, rfl, ?_, q _ H (Same.refl H) dis (.int _)⟩
      rw [Bool.or_eq_true] at c
      exact c.elim (fun z => .inl (inW_of z)) fun z => .inr (inW_of z)
    · cases h
  · split at h
    · rename_i p k c
      cases h
      obtain ⟨p1, xs, rfl, hx, gx⟩ := dp_tup ha
      cases dp_int hb
      have ne : xs ≠ [] := fun e => c.1 ((dpa_nil_iff gx).mpr e)
      by_cases hk : 2 ≤ k
      · refine .inr (.inl ⟨p1, k, xs, rfl, rfl, sqt_ov dis hx, ne, hk, c.2.2.2, by rw [dpa_len gx]; exact c.2.1, fun r nr => ?_⟩)
        exact tup_new (Same.refl H) dis nr (dpa_rep gx _) q
      · refine .inr (.inr ⟨p1, k, xs, rfl, rfl, sqt_ov dis hx, ne, by omega, c.2.2.1, fun e => ?_, fun e r nr => ?_⟩)
        · have : (List.replicate k.toNat p).flatten = p := by
            subst e
            show (List.replicate 1 p).flatten = p
            simp
          rw [this] at q
          exact q _ H (Same.refl H) dis ha
        · have e0 : k.toNat = 0 := by omega
          rw [e0] at q
          exact tup_new (Same.refl H) dis nr .nil q
    · cases h
  · cases h
theorem rd_eq : RD K (rEqD K) dEq := by
  refine ⟨fun {H T x y a b d} dis ha hb h Q q => ?_⟩
  unfold dEq at h
  split at h
  · rename_i c
    rw [Bool.and_eq_true] at c
    cases h
    exact ⟨a, b, dp_ov dis ha, dp_ov dis hb, c.1, c.2, q _ H (Same.refl H) dis (.bl _)⟩
  · cases h
theorem rd_ne : RD K (rNeD K) dNe := by
  refine ⟨fun {H T x y a b d} dis ha hb h Q q => ?_⟩
  unfold dNe at h
  split at h
  · rename_i c
    rw [Bool.and_eq_true] at c
    cases h
    exact ⟨a, b, dp_ov dis ha, dp_ov dis hb, c.1, c.2, q _ H (Same.refl H) dis (.bl _)⟩
  · cases h
def rIsA : R2 := fun x y H Q => rIsN x y H Q ∨ rIsB x y H Q
def rNotA : R2 := fun x y H Q => rNotN x y H Q ∨ rNotB x y H Q
theorem op_isA {X : Cx} : OpR X (compareOp .Is) rIsA := op_isN1.or op_isBl
theorem op_notA {X : Cx} : OpR X (compareOp .IsNot) rNotA := op_notN1.or op_notBl
theorem dis_cases {a b d : D} (h : dIs a b = some d) : (b = .none ∧ ∃ c, d = .bool c ∧ ∀ H v, Dp K H v a → decide (v = .non) = c) ∨ ∃ p q, a = .bool p ∧ b = .bool q ∧ d = .bool (decide (p = q)) := by
  unfold dIs at h
  split at h <;> first
    | (cases h; exact .inl ⟨rfl, _, rfl, fun H v g => by cases g <;> simp⟩)
    | (cases h; exact .inr ⟨_, _, rfl, rfl, rfl⟩)
    | cases h
theorem rd_is : RD K rIsA dIs := by
  refine ⟨fun {H T x y a b d} dis ha hb h Q q => ?_⟩
  rcases dis_cases (K := K) h with ⟨rfl, c, rfl, g⟩ | ⟨p, q', rfl, rfl, rfl⟩
  · exact .inl ⟨dp_non hb, by rw [g H x ha]; exact q _ H (Same.refl H) dis (.bl _)⟩
  · exact .inr ⟨p, q', dp_bool ha, dp_bool hb, q _ H (Same.refl H) dis (.bl _)⟩
theorem rd_isnot : RD K rNotA dIsNot := by
  refine ⟨fun {H T x y a b d} dis ha hb h Q q => ?_⟩
  obtain ⟨z, hz, h⟩ := bind_some h
  obtain ⟨k, hk, h⟩ := map_some h
  subst h
  rcases dis_cases (K := K) hz with ⟨rfl, c, rfl, g⟩ | ⟨p, q', rfl, rfl, rfl⟩
  · cases isB_some hk
    exact .inl ⟨dp_non hb, by rw [g H x ha]; exact q _ H (Same.refl H) dis (.bl _)⟩
  · cases isB_some hk
    exact .inr ⟨p, q', dp_bool ha, dp_bool hb, q _ H (Same.refl H) dis (.bl _)⟩
end
end DD

set_option Elab.async false
set_option linter.all false
set_option maxRecDepth 100000
set_option maxHeartbeats 4000000
namespace DD
open PySem PySem.Spec PyProof.Rows L2
section
variable {K : PySem.W.Frag} {H : Hp} {T : Ov} {x y v : V} {a b d : D}

/-! ### len, all, any, max, min, tuple, list, sorted -/
def dLen : List D → Option D
  | [.str z] => if z.length ≤ cap then some (.int z.length) else none
  | [.list ds] => if ds.length ≤ cap then some (.int ds.length) else none
  | [.tuple ds] => if ds.length ≤ cap then some (.int ds.length) else none
  | _ => none
def rLenA (K : PySem.W.Frag) : List V → Hp → VK → Prop := fun xs H Q => ∃ x n, xs = [x] ∧ LenV K x H n ∧ Q (.int n) H
theorem cr_len {X : Cx} : CallR X (.builtin "len") (rLenA X.K) := call_len
theorem dpa_one {vs : List V} (h : DpAll K H vs [d]) : ∃ v, vs = [v] ∧ Dp K H v d := by
  cases h with
  | cons a b => cases b; exact ⟨_, rfl, a⟩
theorem dpa_two {vs : List V} (h : DpAll K H vs [a, b]) : ∃ u v, vs = [u, v] ∧ Dp K H u a ∧ Dp K H v b := by
  cases h with
  | cons p q =>
    obtain ⟨v, rfl, r⟩ := dpa_one q
    exact ⟨_, v, rfl, p, r⟩
theorem cd_len : CD K (rLenA K) dLen := by
  refine ⟨fun {H T vs ds d} dis h e Q q => ?_⟩
  unfold dLen at e
  split at e
  · split at e
    · rename_i z hz
      cases e
      obtain ⟨v, rfl, g⟩ := dpa_one h
      cases dp_str g
      exact ⟨_, _, rfl, ⟨cap_line hz, rfl⟩, q _ H (Same.refl H) dis (.int _)⟩
    · cases e
  · split at e
    · rename_i es hz
      cases e
      obtain ⟨v, rfl, g⟩ := dpa_one h
      obtain ⟨p, xs, rfl, hx, gx⟩ := dp_lst g
      exact ⟨_, _, rfl, .inl ⟨xs, sql_ov dis hx, rfl⟩, by rw [dpa_len gx]; exact q _ H (Same.refl H) dis (.int _)⟩
    · cases e
  · split at e
    · rename_i es hz
      cases e
      obtain ⟨v, rfl, g⟩ := dpa_one h
      obtain ⟨p, xs, rfl, hx, gx⟩ := dp_tup g
      exact ⟨_, _, rfl, .inr ⟨xs, sqt_ov dis hx, rfl⟩, by rw [dpa_len gx]; exact q _ H (Same.refl H) dis (.int _)⟩
    · cases e
  · cases e
/-- a list of truths -/
def bools : List D → Option (List Bool)
  | [] => some []
  | .bool b :: r => (bools r).map fun x => b :: x
  | _ => none
theorem bools_of : ∀ {ds : List D} {bs : List Bool}, bools ds = some bs → ∀ {vs : List V}, DpAll K H vs ds → vs = bs.map V.bl
  | [], bs, h, vs, g => by cases h; cases g; rfl
  | .bool b :: r, bs, h, vs, g => by
    obtain ⟨c, hc, e⟩ := map_some h
    subst e
    cases g with
    | cons p q => rw [List.map_cons, dp_bool p, bools_of hc q]
  | .none :: _, _, h, _, _ => by cases h
  | .int _ :: _, _, h, _, _ => by cases h
  | .str _ :: _, _, h, _, _ => by cases h
  | .list _ :: _, _, h, _, _ => by cases h
  | .tuple _ :: _, _, h, _, _ => by cases h
  | .dict _ :: _, _, h, _, _ => by cases h
def dAll : List D → Option D
  | [.list ds] => (bools ds).map fun bs => .bool (bs.all id)
  | _ => none
def dAny : List D → Option D
  | [.list ds] => (bools ds).map fun bs => .bool (bs.any id)
  | _ => none
theorem cd_all : CD K (rAll K) dAll := by
  refine ⟨fun {H T vs ds d} dis h e Q q => ?_⟩
  unfold dAll at e
  split at e
  · obtain ⟨bs, hb, e⟩ := map_some e
    subst e
    obtain ⟨v, rfl, g⟩ := dpa_one h
    obtain ⟨p, xs, rfl, hx, gx⟩ := dp_lst g
    rw [bools_of hb gx] at hx
    exact ⟨p, bs, rfl, sql_ov dis hx, q _ H (Same.refl H) dis (.bl _)⟩
  · cases e
theorem cd_any : CD K (rAny K) dAny := by
  refine ⟨fun {H T vs ds d} dis h e Q q => ?_⟩
  unfold dAny at e
  split at e
  · obtain ⟨bs, hb, e⟩ := map_some e
    subst e
    obtain ⟨v, rfl, g⟩ := dpa_one h
    obtain ⟨p, xs, rfl, hx, gx⟩ := dp_lst g
    rw [bools_of hb gx] at hx
    exact ⟨p, bs, rfl, sql_ov dis hx, q _ H (Same.refl H) dis (.bl _)⟩
  · cases e
def rMax2 : List V → Hp → VK → Prop := fun xs H Q => ∃ i j, xs = [.int i, .int j] ∧ Q (.int (if j > i then j else i)) H
def rMin2 : List V → Hp → VK → Prop := fun xs H Q => ∃ i j, xs = [.int i, .int j] ∧ Q (.int (if j < i then j else i)) H
theorem cr_max2 {X : Cx} (hc : X.calm = true) : CallR X (.builtin "max") rMax2 := call_max2 hc
theorem cr_min2 {X : Cx} (hc : X.calm = true) : CallR X (.builtin "min") rMin2 := call_min2 hc
def dMax2 : List D → Option D
  | [.int i, .int j] => some (.int (if j > i then j else i))
  | _ => none
def dMin2 : List D → Option D
  | [.int i, .int j] => some (.int (if j < i then j else i))
  | _ => none
theorem cd_max2 : CD K rMax2 dMax2 := by
  refine ⟨fun {H T vs ds d} dis h e Q q => ?_⟩
  unfold dMax2 at e
  split at e
  · cases e
    obtain ⟨u, v, rfl, g1, g2⟩ := dpa_two h
    cases dp_int g1
    cases dp_int g2
    exact ⟨_, _, rfl, q _ H (Same.refl H) dis (.int _)⟩
  · cases e
theorem cd_min2 : CD K rMin2 dMin2 := by
  refine ⟨fun {H T vs ds d} dis h e Q q => ?_⟩
  unfold dMin2 at e
  split at e
  · cases e
    obtain ⟨u, v, rfl, g1, g2⟩ := dpa_two h
    cases dp_int g1
    cases dp_int g2
    exact ⟨_, _, rfl, q _ H (Same.refl H) dis (.int _)⟩
  · cases e
def rTupOf (K : PySem.W.Frag) : List V → Hp → VK → Prop := fun xs H Q => ∃ p ys, xs = [.ref p] ∧ ((SqL K H p ys ∧ ∀ l, H l = none → Q (.ref l) (upd H l (.tup ys))) ∨ (SqT K H p ys ∧ Q (.ref p) H))
theorem cr_tupOf {X : Cx} : CallR X (.type "tuple") (rTupOf X.K) := call_tuple_of
def dTupOf : List D → Option D
  | [.list ds] => some (.tuple ds)
  | [.tuple ds] => some (.tuple ds)
  | _ => none
theorem cd_tupOf : CD K (rTupOf K) dTupOf := by
  refine ⟨fun {H T vs ds d} dis h e Q q => ?_⟩
  unfold dTupOf at e
  split at e
  · cases e
    obtain ⟨v, rfl, g⟩ := dpa_one h
    obtain ⟨p, xs, rfl, hx, gx⟩ := dp_lst g
    exact ⟨p, xs, rfl, .inl ⟨sql_ov dis hx, fun l nl => tup_new (Same.refl H) dis nl gx q⟩⟩
  · cases e
    obtain ⟨v, rfl, g⟩ := dpa_one h
    obtain ⟨p, xs, rfl, hx, gx⟩ := dp_tup g
    exact ⟨p, xs, rfl, .inr ⟨sqt_ov dis hx, q _ H (Same.refl H) dis g⟩⟩
  · cases e
def rLstOf (K : PySem.W.Frag) : List V → Hp → VK → Prop := fun xs H Q => ∃ p ys, xs = [.ref p] ∧ (SqL K H p ys ∨ SqT K H p ys) ∧ ∀ l, H l = none → Q (.ref l) (upd H l (.lst ys))
theorem cr_lstOf {X : Cx} : CallR X (.type "list") (rLstOf X.K) := call_list_of
def dLstOf : List D → Option (List D)
  | [.list ds] => some ds
  | [.tuple ds] => some ds
  | _ => none
theorem cl_lstOf : CL K (rLstOf K) dLstOf := by
  refine ⟨fun {H T vs ds es} dis h e Q q => ?_⟩
  unfold dLstOf at e
  split at e
  · cases e
    obtain ⟨v, rfl, g⟩ := dpa_one h
    obtain ⟨p, xs, rfl, hx, gx⟩ := dp_lst g
    exact ⟨p, xs, rfl, .inl (sql_ov dis hx), fun l nl => q l xs H (Same.refl H) dis nl gx⟩
  · cases e
    obtain ⟨v, rfl, g⟩ := dpa_one h
    obtain ⟨p, xs, rfl, hx, gx⟩ := dp_tup g
    exact ⟨p, xs, rfl, .inr (sqt_ov dis hx), fun l nl => q l xs H (Same.refl H) dis nl gx⟩
  · cases e

/-! ### isinstance -/
def tyName : D → String
  | .none => "NoneType"
  | .bool _ => "bool"
  | .int _ => "int"
  | .str _ => "str"
  | .list _ => "list"
  | .tuple _ => "tuple"
  | .dict _ => "dict"
theorem tyX_of (dis : Dis H T) (h : Dp K H v d) : TyX K (ov H T) v (.type (tyName d)) := by
  cases h with
  | non => exact .base .non
  | bl b => exact .base (.bl b)
  | int i => exact .base (.int i)
  | str z => exact .base (.str z)
  | lst hs _ =>
    rcases sql_ov dis hs with (h | ⟨o, h⟩) | ⟨o, its, n, hk, hc, _⟩
    · exact .base (.lst h)
    · exact .base (.frz h)
    · exact .kList hk hc
  | tup hs _ =>
    rcases sqt_ov dis hs with (h | ⟨o, h⟩) | ⟨o, its, n, hk, hc, _⟩
    · exact .base (.tup h)
    · exact .fTuple h
    · exact .kTuple hk hc
/-- whether a thing is of a built-in class -/
def isName (c t : String) : Bool := t == c || (c == "int" && t == "bool")
def isIt (c : String) (d : D) : Bool := isName c (tyName d)
def dIsi (c : String) (d : D) : Option D := some (.bool (isIt c d))
def tyNames : List String := ["NoneType", "bool", "int", "str", "list", "tuple", "dict"]
theorem ty_in (d : D) : tyName d ∈ tyNames := by cases d <;> simp [tyName, tyNames]
def ClsOk (c : String) : Prop := ∀ d : D, kitB (tyName d) c = some (isIt c d)
theorem cls_by {c : String} (h : ∀ t ∈ tyNames, kitB t c = some (isName c t)) : ClsOk c := fun d => h _ (ty_in d)
theorem cls_int : ClsOk "int" := cls_by (by decide +kernel)
theorem cls_bool : ClsOk "bool" := cls_by (by decide +kernel)
theorem cls_str : ClsOk "str" := cls_by (by decide +kernel)
theorem cls_list : ClsOk "list" := cls_by (by decide +kernel)
theorem cls_tuple : ClsOk "tuple" := cls_by (by decide +kernel)
theorem ev_isi {c : String} {ta : TE} {ma : En → Option D} (hc : ClsOk c) (ha : ET K ta ma) : ET K (tCB (rIsi K) (tCons ta (tCons (tC (.ty c)) tNil))) (mUn (dIsi c) ma) := by
  refine ⟨fun {H0 T0 σ ρ H T d} G h Q q => ?_⟩
  obtain ⟨x, hx, h⟩ := bind_some h
  cases h
  refine ha.run G hx _ fun v H1 s1 d1 p1 => ?_
  exact ⟨v, .ty c, _, _, _, rfl, .ty c, tyX_of d1 p1, kit_ty (hc x), q _ H1 s1 d1 (.bl _)⟩

/-! ### truth of a value -/
def tru : D → Option Bool
  | .none => some false
  | .bool b => some b
  | .int i => some (i != 0)
  | .str z => if z.length ≤ cap then some ((z.length : Int) != 0) else none
  | .list ds => some (!ds.isEmpty)
  | .tuple ds => some (!ds.isEmpty)
  | .dict _ => none
def mTru (a : En → Option D) : En → Option Bool := fun ρ => (a ρ).bind tru
theorem emp_of {xs : List V} {ds : List D} (h : DpAll K H xs ds) : xs.isEmpty = ds.isEmpty := by cases h <;> rfl
theorem et_tru {ta : TE} {ma : En → Option D} (ha : ET K ta ma) : TTm K (tTru K ta) (mTru ma) := by
  refine ⟨fun {H0 T0 σ ρ H T b} G h Q q => ?_⟩
  obtain ⟨x, hx, h⟩ := bind_some h
  refine ha.run G hx _ fun v H1 s1 d1 p1 => ⟨b, ?_, q H1 s1 d1⟩
  unfold tru at h
  split at h
  · cases h; cases dp_non p1; rfl
  · cases h; cases dp_bool p1; rfl
  · cases h; cases dp_int p1; rfl
  · split at h
    · rename_i hz
      cases h; cases dp_str p1; exact ⟨cap_line hz, rfl⟩
    · cases h
  · cases h
    obtain ⟨p, xs, rfl, hs, g⟩ := dp_lst p1
    exact .inl ⟨xs, sql_ov d1 hs, by rw [emp_of g]⟩
  · cases h
    obtain ⟨p, xs, rfl, hs, g⟩ := dp_tup p1
    exact .inr (.inl ⟨xs, sqt_ov d1 hs, by rw [emp_of g]⟩)
  · cases h

/-! ### places, slices -/
def dIx : D → D → Option D
  | .list ds, .int i => atI ds i
  | .tuple ds, .int i => atI ds i
  | .str z, .int i => if z.length ≤ cap then (atI z.cps.toList i).map fun c => .str ⟨#[c]⟩ else none
  | _, _ => none
theorem atI_dp {xs : List V} {ds : List D} (h : DpAll K H xs ds) {i : Int} (e : atI ds i = some d) : ∃ v, atI xs i = some v ∧ Dp K H v d := by
  unfold atI at e ⊢
  rw [dpa_len h]
  obtain ⟨j, hj, e⟩ := bind_some e
  rw [hj]
  exact dpa_get h e
theorem rd_ix : RD K (rIx K) dIx := by
  refine ⟨fun {H T x y a b d} dis ha hb h Q q => ?_⟩
  unfold dIx at h
  split at h
  · obtain ⟨p, xs, rfl, hs, g⟩ := dp_lst ha
    cases dp_int hb
    obtain ⟨v, hv, gv⟩ := atI_dp g h
    exact .inl ⟨p, xs, _, v, rfl, rfl, sql_ov dis hs, hv, q v H (Same.refl H) dis gv⟩
  · obtain ⟨p, xs, rfl, hs, g⟩ := dp_tup ha
    cases dp_int hb
    obtain ⟨v, hv, gv⟩ := atI_dp g h
    exact .inr (.inl ⟨p, xs, _, v, rfl, rfl, sqt_ov dis hs, hv, q v H (Same.refl H) dis gv⟩)
  · split at h
    · rename_i z i hz
      obtain ⟨c, hc, h⟩ := map_some h
      subst h
      cases dp_str ha
      cases dp_int hb
      exact .inr (.inr ⟨z, i, c, rfl, rfl, cap_line hz, hc, q _ H (Same.refl H) dis (.str _)⟩)
    · cases h
  · cases h
/-- a slice's parts -/
structure PAm (K : PySem.W.Frag) (t : TO) (m : En → Option (Option Int)) : Prop where
  run : ∀ {H0 : Hp} {T0 : Ov} {σ : L2.St} {ρ : En} {H : Hp} {T : Ov} {o : Option Int}, Good K H0 T0 σ ρ H T → m ρ = some o →
    ∀ Q : Option Int → Hp → Prop, (∀ H', Same H H' → Dis H' T → Q o (ov H' T)) → t σ (ov H T) Q
def mNoPart : En → Option (Option Int) := fun _ => some none
def isI : D → Option Int
  | .int i => some i
  | _ => none
def mPart (a : En → Option D) : En → Option (Option Int) := fun ρ => (a ρ).bind fun x => (isI x).map some
theorem po_no : PAm K tNoPart mNoPart := ⟨fun {H0 T0 σ ρ H T o} G h Q q => by cases h; exact q H (Same.refl H) G.dis⟩
theorem po_part {ta : TE} {ma : En → Option D} (ha : ET K ta ma) : PAm K (tPart ta) (mPart ma) := by
  refine ⟨fun {H0 T0 σ ρ H T o} G h Q q => ?_⟩
  obtain ⟨x, hx, h⟩ := bind_some h
  obtain ⟨i, hi, h⟩ := map_some h
  subst h
  have e : x = .int i := by
    unfold isI at hi
    split at hi
    · cases hi; rfl
    · cases hi
  subst e
  exact ha.run G hx _ fun v H1 s1 d1 p1 => ⟨i, dp_int p1, q H1 s1 d1⟩
def cutD (ds : List D) (lo hi : Option Int) : List D := (ds.drop (HT.sIx ds.length 0 lo)).take (HT.sIx ds.length ds.length hi - HT.sIx ds.length 0 lo)
theorem dpa_cut {xs : List V} {ds : List D} (h : DpAll K H xs ds) (lo hi : Option Int) : DpAll K H (cutV xs lo hi) (cutD ds lo hi) := by
  unfold cutV cutD
  rw [dpa_len h]
  exact dpa_take _ (dpa_drop _ h)
def dSl (d : D) (lo hi : Option Int) : Option D := match d with
  | .tuple ds => some (.tuple (cutD ds lo hi))
  | .str z => if z.length ≤ cap then some (.str (cutS z lo hi)) else none
  | _ => none
def mSl (a : En → Option D) (l h : En → Option (Option Int)) : En → Option D := fun ρ => (a ρ).bind fun x => (l ρ).bind fun lo => (h ρ).bind fun hi => dSl x lo hi
def rSlX (K : PySem.W.Frag) : V → Option Int → Option Int → Hp → VK → Prop := fun x lo hi H Q => rSlA K x lo hi H Q ∨ rSlS x lo hi H Q
theorem sl_any {X : Cx} : SlR X (rSlX X.K) := SlR.or sl_tupA sl_str
theorem ev_sl {ta : TE} {tl th : TO} {ma : En → Option D} {ml mh : En → Option (Option Int)} (ha : ET K ta ma) (hl : PAm K tl ml) (hh : PAm K th mh) : ET K (tSl (rSlX K) ta tl th) (mSl ma ml mh) := by
  refine ⟨fun {H0 T0 σ ρ H T d} G h Q q => ?_⟩
  obtain ⟨x, hx, h1⟩ := bind_some h
  obtain ⟨lo, hlo, h2⟩ := bind_some h1
  obtain ⟨hi, hhi, h3⟩ := bind_some h2
  refine ha.run G hx _ fun v H1 s1 d1 p1 => ?_
  refine hl.run (G.mono s1 d1) hlo _ fun H2 s2 d2 => ?_
  refine hh.run (G.mono (s1.trans s2) d2) hhi _ fun H3 s3 d3 => ?_
  have p3 := dp_mono (s2.trans s3) p1
  have s13 := (s1.trans s2).trans s3
  unfold dSl at h3
  split at h3
  · cases h3
    obtain ⟨p, xs, rfl, hs, g⟩ := dp_tup p3
    refine .inl ⟨p, xs, rfl, sqt_ov d3 hs, fun hw => ?_, fun hw r nr => ?_⟩
    · refine q _ H3 s13 d3 ?_
      have := dpa_cut g lo hi
      unfold cutV at this
      rw [hw.1, hw.2, List.drop_zero, Nat.sub_zero, List.take_length] at this
      exact .tup hs this
    · exact tup_new (Same.refl H3) d3 nr (dpa_cut g lo hi) fun u H4 s4 d4 p4 => q u H4 (s13.trans s4) d4 p4
  · split at h3
    · rename_i hz
      cases h3
      cases dp_str p3
      exact .inr ⟨_, rfl, cap_line hz, q _ H3 s13 d3 (.str _)⟩
    · cases h3
  · cases h3
def mSlL (a : En → Option D) (l h : En → Option (Option Int)) : En → Option (List D) := fun ρ => (a ρ).bind fun x => (l ρ).bind fun lo => (h ρ).bind fun hi => match x with
  | .list ds => some (cutD ds lo hi)
  | _ => none
theorem fl_sl {ta : TE} {tl th : TO} {ma : En → Option D} {ml mh : En → Option (Option Int)} (ha : ET K ta ma) (hl : PAm K tl ml) (hh : PAm K th mh) : FL K (tSl (rSlL K) ta tl th) (mSlL ma ml mh) := by
  refine ⟨fun {H0 T0 σ ρ H T d} G h Q q => ?_⟩
  obtain ⟨x, hx, h1⟩ := bind_some h
  obtain ⟨lo, hlo, h2⟩ := bind_some h1
  obtain ⟨hi, hhi, h3⟩ := bind_some h2
  refine ha.run G hx _ fun v H1 s1 d1 p1 => ?_
  refine hl.run (G.mono s1 d1) hlo _ fun H2 s2 d2 => ?_
  refine hh.run (G.mono (s1.trans s2) d2) hhi _ fun H3 s3 d3 => ?_
  have p3 := dp_mono (s2.trans s3) p1
  split at h3
  · cases h3
    obtain ⟨p, xs, rfl, hs, g⟩ := dp_lst p3
    exact ⟨p, xs, rfl, sql_ov d3 hs, fun r nr => q r _ H3 ((s1.trans s2).trans s3) d3 nr (dpa_cut g lo hi)⟩
  · cases h3

/-! ### in -/
def dInS : D → D → Option D
  | .str p, .str z => match p.cps.toList with
    | [c] => some (.bool (decide (c ∈ z.cps.toList)))
    | _ => none
  | _, _ => none
def dNotInS (a b : D) : Option D := (dInS a b).bind fun z => (isB z).map fun c => .bool (!c)
theorem inS_cases {a b d : D} (h : dInS a b = some d) : ∃ c z, a = .str ⟨#[c]⟩ ∧ b = .str z ∧ d = .bool (decide (c ∈ z.cps.toList)) := by
  unfold dInS at h
  split at h
  · rename_i p z
    split at h
    · rename_i c e
      cases h
      refine ⟨c, z, ?_, rfl, rfl⟩
      obtain ⟨p⟩ := p
      have : p = #[c] := by
        have e' : p.toList = [c] := e
        rw [← Array.toArray_toList (xs := p), e']
      rw [this]
    · cases h
  · cases h
theorem rd_inS : RD K rInS dInS := by
  refine ⟨fun {H T x y a b d} dis ha hb h Q q => ?_⟩
  obtain ⟨c, z, rfl, rfl, rfl⟩ := inS_cases h
  exact ⟨c, z, dp_str ha, dp_str hb, q _ H (Same.refl H) dis (.bl _)⟩
theorem rd_notInS : RD K rNotInS dNotInS := by
  refine ⟨fun {H T x y a b d} dis ha hb h Q q => ?_⟩
  obtain ⟨w, hw, h⟩ := bind_some h
  obtain ⟨k, hk, h⟩ := map_some h
  subst h
  obtain ⟨c, z, rfl, rfl, rfl⟩ := inS_cases hw
  cases isB_some hk
  exact ⟨c, z, dp_str ha, dp_str hb, q _ H (Same.refl H) dis (.bl _)⟩
/-- in a list of any data -/
def dInL : D → D → Option D
  | x, .list ds => if (SeqAt.shaped x && SeqAt.shaped (.list ds)) = true then some (.bool (ds.any fun z => PyData.eqv z x)) else none
  | _, _ => none
def dNotInL (a b : D) : Option D := (dInL a b).bind fun z => (isB z).map fun c => .bool (!c)
theorem rd_inL : RD K (rInD K) dInL := by
  refine ⟨fun {H T x y a b d} dis ha hb h Q q => ?_⟩
  unfold dInL at h
  split at h
  · rename_i ds
    split at h
    · rename_i c
      rw [Bool.and_eq_true] at c
      cases h
      exact ⟨a, ds, dp_ov dis ha, dp_ov dis hb, c.1, c.2, q _ H (Same.refl H) dis (.bl _)⟩
    · cases h
  · cases h
theorem rd_notInL : RD K (rNotInD K) dNotInL := by
  refine ⟨fun {H T x y a b d} dis ha hb h Q q => ?_⟩
  obtain ⟨w, hw, h⟩ := bind_some h
  obtain ⟨k, hk, h⟩ := map_some h
  subst h
  unfold dInL at hw
  split at hw
  · rename_i ds
    split at hw
    · rename_i c
      rw [Bool.and_eq_true] at c
      cases hw
      cases isB_some hk
      exact ⟨a, ds, dp_ov dis ha, dp_ov dis hb, c.1, c.2, q _ H (Same.refl H) dis (.bl _)⟩
    · cases hw
  · cases hw
/-- in a tuple of flat data -/
def flatD : D → Bool
  | .none => true
  | .bool _ => true
  | .int _ => true
  | .str _ => true
  | _ => false
def dInT (neg : Bool) : D → D → Option D
  | x, .tuple ds => if (flatD x && ds.all flatD) = true then some (.bool (if neg then !(ds.any fun z => PyData.eqv z x) else ds.any fun z => PyData.eqv z x)) else none
  | _, _ => none
theorem flat_of (h : Dp K H v d) (f : flatD d = true) : flatV v = true := by cases h <;> first | rfl | cases f
theorem flatA_of : ∀ {xs : List V} {ds : List D}, DpAll K H xs ds → ds.all flatD = true → xs.all flatV = true
  | _, _, .nil, _ => rfl
  | _, _, .cons h t, f => by
    rw [List.all_cons, Bool.and_eq_true] at f
    rw [List.all_cons, flat_of h f.1, flatA_of t f.2]
    rfl
theorem eqV_eqv {x y : V} {a b : D} (ha : Dp K H x a) (hb : Dp K H y b) (fa : flatD a = true) (fb : flatD b = true) : eqV x y = PyData.eqv a b := by
  cases ha <;> first | (cases fa; done) | (cases hb <;> first | (cases fb; done) | (simp [eqV, PyData.eqv]; done) | rfl)
theorem inV_eqv {x : V} {a : D} (ha : Dp K H x a) (fa : flatD a = true) : ∀ {xs : List V} {ds : List D}, DpAll K H xs ds → ds.all flatD = true → inV x xs = ds.any fun z => PyData.eqv z a
  | _, _, .nil, _ => rfl
  | _, _, .cons (vs := vs) (ds := ds) h t, f => by
    rw [List.all_cons, Bool.and_eq_true] at f
    have ih := inV_eqv ha fa t f.2
    unfold inV at ih ⊢
    rw [List.any_cons, List.any_cons, ih, eqV_eqv h ha f.1 fa]
theorem rd_inT {neg : Bool} : RD K (rIn K neg) (dInT neg) := by
  refine ⟨fun {H T x y a b d} dis ha hb h Q q => ?_⟩
  unfold dInT at h
  split at h
  · rename_i ds
    split at h
    · rename_i c
      rw [Bool.and_eq_true] at c
      cases h
      obtain ⟨p, xs, rfl, hs, g⟩ := dp_tup hb
      refine ⟨p, xs, rfl, .inr (sqt_ov dis hs), flat_of ha c.1, flatA_of g c.2, ?_⟩
      rw [inV_eqv ha c.1 g c.2]
      exact q _ H (Same.refl H) dis (.bl _)
    · cases h
  · cases h
end
end DD

set_option Elab.async false
set_option linter.all false
set_option maxRecDepth 100000
set_option maxHeartbeats 4000000
namespace DD
open PySem PySem.Spec PyProof.Rows L2

/-! ### mirrors of statements -/
def sNext : En → Option Fl := fun ρ => some (.nx ρ)
def sSeq (a b : En → Option Fl) : En → Option Fl := fun ρ => (a ρ).bind fun f => match f with
  | .nx ρ' => b ρ'
  | f => some f
def sIf (c : En → Option Bool) (a b : En → Option Fl) : En → Option Fl := fun ρ => (c ρ).bind fun x => if x = true then a ρ else b ρ
def sRet (a : En → Option D) : En → Option Fl := fun ρ => (a ρ).map Fl.rt
def sDrop (a : En → Option D) : En → Option Fl := fun ρ => (a ρ).map fun _ => .nx ρ
def gSet (i : Nat) (d : D) (ρ : En) : Option En := some (ρ.set i (some (.val d)))
def sAsg (a : En → Option D) (g : D → En → Option En) : En → Option Fl := fun ρ => (a ρ).bind fun d => (g d ρ).map Fl.nx
def sOwn (i : Nat) (a : En → Option (List D)) : En → Option Fl := fun ρ => (a ρ).map fun ds => .nx (ρ.set i (some (.own ds)))
def sFrz (i : Nat) (a : En → Option Fl) : En → Option Fl := fun ρ => a (frz i ρ)
def sPar (i j : Nat) (a b : En → Option D) : En → Option Fl := fun ρ => (a ρ).bind fun x => (b ρ).map fun y => .nx ((ρ.set i (some (.val x))).set j (some (.val y)))
def sBrk : En → Option Fl := fun ρ => some (.bk ρ)
def sCnt : En → Option Fl := fun ρ => some (.ct ρ)
def sStop : En → Option Fl := fun _ => none
def loop (g : D → En → Option En) (b : En → Option Fl) : List D → En → Option Fl
  | [], ρ => some (.nx ρ)
  | d :: ds, ρ => (g d ρ).bind fun ρ1 => (b ρ1).bind fun f => match f with
    | .nx ρ2 => loop g b ds ρ2
    | .ct ρ2 => loop g b ds ρ2
    | .bk ρ2 => some (.nx ρ2)
    | .rt d => some (.rt d)
def sFor (it : En → Option (List D)) (g : D → En → Option En) (b : En → Option Fl) : En → Option Fl := fun ρ => (it ρ).bind fun ds => loop g b ds ρ
def whl (c : En → Option Bool) (b : En → Option Fl) : Nat → En → Option Fl
  | 0, _ => none
  | n + 1, ρ => (c ρ).bind fun x => if x = true then (b ρ).bind fun f => match f with
      | .nx ρ2 => whl c b n ρ2
      | .ct ρ2 => whl c b n ρ2
      | .bk ρ2 => some (.nx ρ2)
      | .rt d => some (.rt d)
    else some (.nx ρ)
def sWhile (fuel : En → Nat) (c : En → Option Bool) (b : En → Option Fl) : En → Option Fl := fun ρ => whl c b (fuel ρ) ρ
def sAppend (i : Nat) (a : En → Option D) : En → Option Fl := fun ρ => match ρ[i]? with
  | some (some (.own ds)) => (a ρ).bind fun d => if ds.length < cap then some (.nx (ρ.set i (some (.own (ds ++ [d]))))) else none
  | _ => none
def sExtend (i : Nat) (a : En → Option (List D)) : En → Option Fl := fun ρ => match ρ[i]? with
  | some (some (.own ds)) => (a ρ).bind fun es => if ds.length + es.length ≤ cap then some (.nx (ρ.set i (some (.own (ds ++ es))))) else none
  | _ => none

section
variable {K : PySem.W.Frag} {t u : TS} {te ta tb : TE} {ma mb : En → Option D} {m1 m2 : En → Option Fl}
theorem st_next : TSm K tNext sNext := ⟨fun {H0 T0 σ ρ H T f} G h E q => by cases h; exact q σ H T G⟩
theorem st_brk : TSm K tBreak sBrk := ⟨fun {H0 T0 σ ρ H T f} G h E q => by cases h; exact q σ H T G⟩
theorem st_cnt : TSm K tCont sCnt := ⟨fun {H0 T0 σ ρ H T f} G h E q => by cases h; exact q σ H T G⟩
theorem st_stop {t : TS} : TSm K t sStop := ⟨fun {H0 T0 σ ρ H T f} G h E q => by cases h⟩
theorem st_seq (h1 : TSm K t m1) (h2 : TSm K u m2) : TSm K (tSeq t u) (sSeq m1 m2) := by
  refine ⟨fun {H0 T0 σ ρ H T f} G h E q => ?_⟩
  obtain ⟨x, hx, h⟩ := bind_some h
  refine h1.run G hx _ ?_
  cases x with
  | nx ρ' => exact fun σ' H' T' G' => h2.run G' h E q
  | rt d => cases h; exact q
  | bk ρ' => cases h; exact q
  | ct ρ' => cases h; exact q
theorem FlOk.mono {H0 : Hp} {T0 : Ov} {E : Ends} {f : Fl} (h : FlOk K H0 T0 E f) : FlOk K H0 T0 E f := h
theorem st_if {tc : TT} {mc : En → Option Bool} (hc : TTm K tc mc) (h1 : TSm K t m1) (h2 : TSm K u m2) : TSm K (tIfS tc t u) (sIf mc m1 m2) := by
  refine ⟨fun {H0 T0 σ ρ H T f} G h E q => ?_⟩
  obtain ⟨x, hx, h⟩ := bind_some h
  refine hc.run G hx _ fun H1 s1 d1 => ?_
  cases x with
  | true =>
    rw [if_pos rfl] at h ⊢
    exact h1.run (G.mono s1 d1) h E q
  | false =>
    rw [if_neg Bool.false_ne_true] at h ⊢
    exact h2.run (G.mono s1 d1) h E q
theorem st_ret (ha : ET K te ma) : TSm K (tRet te) (sRet ma) := by
  refine ⟨fun {H0 T0 σ ρ H T f} G h E q => ?_⟩
  obtain ⟨x, hx, h⟩ := map_some h
  subst h
  exact ha.run G hx _ fun v H1 s1 d1 p1 => q v H1 T (G.ex.trans s1) d1 G.ext p1
theorem st_drop (ha : ET K te ma) : TSm K (tDrop te) (sDrop ma) := by
  refine ⟨fun {H0 T0 σ ρ H T f} G h E q => ?_⟩
  obtain ⟨x, hx, h⟩ := map_some h
  subst h
  exact ha.run G hx _ fun v H1 s1 d1 p1 => q σ H1 T (G.mono s1 d1)
theorem tg_name (i : Nat) {vs : List Nat} (hi : i ∈ vs) : TGm K vs (gName i) (gSet i) := by
  refine ⟨fun {H0 T0 σ ρ ρ2 H T v d} G g h Q q => ?_⟩
  cases h
  refine q _ H (G.set g) (Same.refl H) ?_
  have wset : ∀ (vs : List Nat) (σ : L2.St) (x : Option V), i ∈ vs → wipe (σ.set i x) vs = wipe σ vs := by
    intro vs
    induction vs with
    | nil => intro σ x h; cases h
    | cons j r ih =>
      intro σ x h
      show (wipe (σ.set i x) r).set j none = (wipe σ r).set j none
      rcases List.mem_cons.mp h with rfl | h
      · by_cases hr : i ∈ r
        · rw [ih σ x hr]
        · have : ∀ (r : List Nat) (σ : L2.St), i ∉ r → wipe (σ.set i x) r = (wipe σ r).set i x := by
            intro r
            induction r with
            | nil => intro σ _; rfl
            | cons k r ih2 =>
              intro σ h
              show (wipe (σ.set i x) r).set k none = ((wipe σ r).set k none).set i x
              rw [ih2 σ (fun z => h (List.mem_cons_of_mem _ z)), List.set_comm _ _ (fun z : i = k => h (by rw [z]; exact List.mem_cons_self))]
          rw [this r σ hr, List.set_set]
      · rw [ih σ x h]
  exact wset vs σ _ hi
theorem st_asg {vs : List Nat} {g : TG} {mg : D → En → Option En} (ha : ET K te ma) (hg : TGm K vs g mg) : TSm K (tAsg te g) (sAsg ma mg) := by
  refine ⟨fun {H0 T0 σ ρ H T f} G h E q => ?_⟩
  obtain ⟨x, hx, h⟩ := bind_some h
  obtain ⟨ρ2, h2, h⟩ := map_some h
  subst h
  exact ha.run G hx _ fun v H1 s1 d1 p1 => hg.run (G.mono s1 d1) p1 h2 _ fun σ2 H2 G2 _ _ => q σ2 H2 T G2
theorem st_set (i : Nat) (ha : ET K te ma) : TSm K (tAsg te (gName i)) (sAsg ma (gSet i)) := st_asg ha (tg_name i (vs := [i]) List.mem_cons_self)
theorem st_own (i : Nat) {m : En → Option (List D)} (ha : FL K te m) : TSm K (tAsg te (gName i)) (sOwn i m) := by
  refine ⟨fun {H0 T0 σ ρ H T f} G h E q => ?_⟩
  obtain ⟨ds, hd, h⟩ := map_some h
  subst h
  refine ha.run G hd _ fun p xs H1 s1 d1 n1 p1 => ?_
  rw [upd_put]
  exact q _ _ _ ((G.mono s1 d1).setOwn p1 n1)
theorem st_frz (i : Nat) (h1 : TSm K t m1) : TSm K t (sFrz i m1) := by
  refine ⟨fun {H0 T0 σ ρ H T f} G h E q => ?_⟩
  obtain ⟨H', T', G', e, _⟩ := G.freeze i
  rw [e]
  exact h1.run G' h E q
theorem st_par {i j : Nat} (ha : ET K ta ma) (hb : ET K tb mb) : TSm K (tPar i j (tCons ta (tCons tb tNil))) (sPar i j ma mb) := by
  refine ⟨fun {H0 T0 σ ρ H T f} G h E q => ?_⟩
  obtain ⟨x, hx, h⟩ := bind_some h
  obtain ⟨y, hy, h⟩ := map_some h
  subst h
  refine ha.run G hx _ fun v H1 s1 d1 p1 => ?_
  refine hb.run (G.mono s1 d1) hy _ fun w H2 s2 d2 p2 => ⟨v, w, rfl, ?_⟩
  exact q _ H2 T (((G.mono (s1.trans s2) d2).set (dp_mono s2 p1)).set p2)
theorem st_append {i : Nat} (ha : ET K te ma) : TSm K (tDrop (tBM K "list" rAppend (tVar i) (tCons te tNil))) (sAppend i ma) := by
  refine ⟨fun {H0 T0 σ ρ H T f} G h E q => ?_⟩
  unfold sAppend at h
  split at h
  · rename_i ds e
    obtain ⟨x, hx, h⟩ := bind_some h
    split at h
    · rename_i hz
      cases h
      obtain ⟨p, xs, a, b, c, g⟩ := G.own i ds e
      refine ⟨.ref p, a, .inl ⟨rfl, xs, SqL.of (ov_own b)⟩, ?_⟩
      refine ha.run G hx _ fun v H1 s1 d1 p1 => ?_
      refine ⟨p, xs, v, rfl, rfl, ov_own b, cap_lt (by rw [dpa_len g]; omega), ?_⟩
      rw [upd_put]
      exact q _ _ _ ((G.mono s1 d1).turn e a b (dpa_snoc (dpa_mono s1 g) p1))
    · cases h
  · cases h
theorem st_extend {i : Nat} {m : En → Option (List D)} (ha : FL K te m) : TSm K (tDrop (tBM K "list" rExtend (tVar i) (tCons te tNil))) (sExtend i m) := by
  refine ⟨fun {H0 T0 σ ρ H T f} G h E q => ?_⟩
  unfold sExtend at h
  split at h
  · rename_i ds e
    obtain ⟨es, hx, h⟩ := bind_some h
    split at h
    · rename_i hz
      cases h
      obtain ⟨p, xs, a, b, c, g⟩ := G.own i ds e
      refine ⟨.ref p, a, .inl ⟨rfl, xs, SqL.of (ov_own b)⟩, ?_⟩
      refine ha.run G hx _ fun r ys H1 s1 d1 n1 p1 => ?_
      obtain ⟨nT, nH⟩ := ov_free n1
      have ne : p ≠ r := fun z => by rw [← z, b] at nT; cases nT
      refine ⟨p, r, xs, ys, rfl, rfl, by rw [upd_ne ne]; exact ov_own b, upd_same, cap_line (by rw [dpa_len g, dpa_len p1]; exact hz), ?_⟩
      rw [upd_ov nT, upd_put]
      have s2 : Same H1 (upd H1 r (.lst ys)) := same_new nH
      exact q _ _ _ ((G.mono (s1.trans s2) (dis_upd d1 nT)).turn e a b (dpa_append (dpa_mono (s1.trans s2) g) (dpa_mono s2 p1)))
    · cases h
  · cases h
theorem st_for {wi : TI} {mi : En → Option (List D)} {vs : List Nat} {g : TG} {mg : D → En → Option En} (hi : IT K wi mi) (hg : TGm K vs g mg) (hb : TSm K t m1) : TSm K (tFor wi g t) (sFor mi mg m1) := by
  refine ⟨fun {H0 T0 σ ρ H T f} G h E q => ?_⟩
  obtain ⟨ds, hd, h⟩ := bind_some h
  refine hi.run G hd _ fun J Hm s1 d1 w => ?_
  refine ⟨fun i m σ Hc => i ≤ ds.length ∧ m = ds.length - i ∧ ∃ ρ H T, Hc = ov H T ∧ Good K H0 T0 σ ρ H T ∧ Same Hm H ∧ loop mg m1 (ds.drop i) ρ = some f, ⟨ds.length, Nat.zero_le _, rfl, ρ, Hm, T, rfl, G.mono s1 d1, Same.refl Hm, h⟩, ?_⟩
  rintro i m σ1 Hc ⟨hi, rfl, ρ1, H1, T1, rfl, G1, sm, hl⟩
  by_cases hlt : i < ds.length
  · have hge : ds[i]? = some ds[i] := List.getElem?_eq_getElem hlt
    rw [List.drop_eq_getElem_cons hlt] at hl
    obtain ⟨ρ2, h2, hl⟩ := bind_some hl
    obtain ⟨f3, h3, hl⟩ := bind_some hl
    refine .inr ⟨w.go i sm G1.dis hlt, fun σ' Hc' => ∃ ρ H T, Hc' = ov H T ∧ Good K H0 T0 σ' ρ H T ∧ Same Hm H ∧ loop mg m1 (ds.drop (i + 1)) ρ = some f, fun σ' Hc' ⟨ρ', H', T', e', G', s', l'⟩ => ⟨ds.length - (i + 1), by omega, by omega, rfl, ρ', H', T', e', G', s', l'⟩, fun x Hc' y => ?_⟩
    obtain ⟨H2, rfl, s2, d2, p2⟩ := w.yld i sm G1.dis hge y
    refine hg.run (G1.mono s2 d2) p2 h2 _ fun σ3 H3 G3 s3 _ => ?_
    refine hb.run (H0 := H3) (T0 := T0) (σ := σ3) (ρ := ρ2) (H := H3) (T := T1) ⟨G3.len, G3.val, G3.own, G3.inj, G3.dis, G3.ext, Same.refl H3⟩ h3 _ ?_
    have s03 : Same H0 H3 := G3.ex
    cases f3 with
    | nx ρ4 => exact fun σ4 H4 T4 G4 => ⟨ρ4, H4, T4, rfl, ⟨G4.len, G4.val, G4.own, G4.inj, G4.dis, G4.ext, s03.trans G4.ex⟩, (sm.trans (s2.trans s3)).trans G4.ex, hl⟩
    | ct ρ4 => exact fun σ4 H4 T4 G4 => ⟨ρ4, H4, T4, rfl, ⟨G4.len, G4.val, G4.own, G4.inj, G4.dis, G4.ext, s03.trans G4.ex⟩, (sm.trans (s2.trans s3)).trans G4.ex, hl⟩
    | bk ρ4 =>
      cases hl
      exact fun σ4 H4 T4 G4 => q σ4 H4 T4 ⟨G4.len, G4.val, G4.own, G4.inj, G4.dis, G4.ext, s03.trans G4.ex⟩
    | rt d =>
      cases hl
      exact fun v H4 T4 s4 d4 e4 p4 => q v H4 T4 (s03.trans s4) d4 e4 p4
  · have e : i = ds.length := by omega
    subst e
    rw [List.drop_length] at hl
    cases hl
    exact .inl ⟨w.stop sm G1.dis, q σ1 H1 T1 G1⟩
theorem st_while {tc : TT} {mc : En → Option Bool} (fuel : En → Nat) (hc : TTm K tc mc) (hb : TSm K t m1) : TSm K (tWhile tc t) (sWhile fuel mc m1) := by
  refine ⟨fun {H0 T0 σ ρ H T f} G h E q => ?_⟩
  refine ⟨fun m σ Hc => ∃ ρ H T, Hc = ov H T ∧ Good K H0 T0 σ ρ H T ∧ whl mc m1 m ρ = some f, ⟨fuel ρ, ρ, H, T, rfl, G, h⟩, ?_⟩
  rintro m σ1 Hc ⟨ρ1, H1, T1, rfl, G1, hw⟩
  cases m with
  | zero => cases hw
  | succ n =>
    obtain ⟨x, hx, hw⟩ := bind_some hw
    refine hc.run G1 hx _ fun H2 s2 d2 => ?_
    have G2 := G1.mono s2 d2
    cases x with
    | true =>
      rw [if_pos rfl] at hw ⊢
      obtain ⟨f3, h3, hl⟩ := bind_some hw
      refine ⟨fun σ' Hc' => ∃ ρ H T, Hc' = ov H T ∧ Good K H0 T0 σ' ρ H T ∧ whl mc m1 n ρ = some f, fun σ' Hc' h' => ⟨n, Nat.lt_succ_self n, h'⟩, ?_⟩
      refine hb.run G2 h3 _ ?_
      cases f3 with
      | nx ρ4 => exact fun σ4 H4 T4 G4 => ⟨ρ4, H4, T4, rfl, G4, hl⟩
      | ct ρ4 => exact fun σ4 H4 T4 G4 => ⟨ρ4, H4, T4, rfl, G4, hl⟩
      | bk ρ4 => cases hl; exact q
      | rt d => cases hl; exact q
    | false =>
      rw [if_neg Bool.false_ne_true] at hw ⊢
      cases hw
      exact q σ1 H2 T1 G2

/-! ### what is walked -/
def its : D → Option (List D)
  | .list ds => some ds
  | .tuple ds => some ds
  | .str z => some (z.cps.toList.map fun c => .str ⟨#[c]⟩)
  | _ => none
def mIter (a : En → Option D) : En → Option (List D) := fun ρ => (a ρ).bind its
def iAny (K : PySem.W.Frag) (te : TE) : TI := fun σ H R => te σ H fun x H1 => (∃ a, x = .ref a ∧ (∃ xs, SqL K H1 a xs) ∧ R (Itl K a) H1) ∨ (∃ a, x = .ref a ∧ (∃ xs, SqT K H1 a xs) ∧ R (Itt K a) H1) ∨ ∃ z, x = .str z ∧ R (Its z) H1
theorem pi_any {X : Cx} {tg l : Expr} {tl : TE} (hl : PE X l tl) : PI X tg l (iAny X.K tl) := by
  refine ⟨fun pins s σ H R I h => ?_⟩
  refine thn (hl.run pins s σ H _ I h) fun v s1 ⟨x, H1, I1, r1, q1⟩ => ?_
  rcases q1 with ⟨a, e, ⟨xs, hq⟩, q⟩ | ⟨a, e, ⟨xs, hq⟩, q⟩ | ⟨z, e, q⟩
  · subst e
    cases r1
    obtain ⟨its, rv, p, hz⟩ := I1.list hq
    refine wpAny_pyIter_list p.isList ?_
    refine ⟨s1.heap.objs.size, [s1.heap.objs.size], _, _, H1, rfl, I1.kept (t' := s1.toks) fun b o e => Heap.get?_push_of_some _ e, turn_list a _, ⟨_, Heap.get?_push_size _ rfl, rfl, rfl⟩, fun b hb => ?_, q⟩
    have e : b = s1.heap.objs.size := by simpa using hb
    subst e
    exact I1.fpOk (Nat.le_refl _) (I1.hok.fresh (Nat.le_refl _))
  · subst e
    cases r1
    obtain ⟨its, rv, p, hz⟩ := I1.tuple hq
    refine wpAny_pyIter_tuple (show s1.heap.IsTuple a its.toArray from p) ?_
    refine ⟨s1.heap.objs.size, [s1.heap.objs.size], _, _, H1, rfl, I1.kept (t' := s1.toks) fun b o e => Heap.get?_push_of_some _ e, turn_tuple a _, ⟨_, Heap.get?_push_size _ rfl, rfl, rfl⟩, fun b hb => ?_, q⟩
    have e : b = s1.heap.objs.size := by simpa using hb
    subst e
    exact I1.fpOk (Nat.le_refl _) (I1.hok.fresh (Nat.le_refl _))
  · subst e
    obtain ⟨t, rfl⟩ := r1
    cases ha : z.cps.all (· < 128)
    · exact wpAny_pyIter_wide ha (pi_one (tk := s1.toks) I1 _ (turn_str _ z t "str_iterator" (.inr rfl)) ⟨_, Heap.get?_push_size _ rfl, rfl, rfl⟩ q)
    · exact wpAny_pyIter_ascii ha (pi_one (tk := s1.toks) I1 _ (turn_str _ z t "str_ascii_iterator" (.inl rfl)) ⟨_, Heap.get?_push_size _ rfl, rfl, rfl⟩ q)
theorem it_any {ma : En → Option D} (ha : ET K te ma) : IT K (iAny K te) (mIter ma) := by
  refine ⟨fun {H0 T0 σ ρ H T ds} G h R q => ?_⟩
  obtain ⟨x, hx, h⟩ := bind_some h
  refine ha.run G hx _ fun v H1 s1 d1 p1 => ?_
  unfold its at h
  split at h
  · cases h
    obtain ⟨p, xs, rfl, hs, g⟩ := dp_lst p1
    refine .inl ⟨p, rfl, ⟨xs, sql_ov d1 hs⟩, q _ H1 s1 d1 ⟨fun {H T} i sm dis hi => ?_, fun {H T} sm dis => ?_, fun {H T} i {x Hc d} sm dis hd y => ?_⟩⟩
    · rw [← dpa_len g] at hi
      exact ⟨xs, xs[i], sql_ov dis (sm.seq hs), by simp [hi]⟩
    · exact ⟨xs, sql_ov dis (sm.seq hs), by rw [dpa_len g]; exact Nat.le_refl _⟩
    · obtain ⟨rfl, y⟩ := y
      obtain ⟨w, hw, gw⟩ := dpa_get g hd
      have := y xs (sql_ov dis (sm.seq hs))
      rw [hw] at this
      cases this
      exact ⟨H, rfl, Same.refl H, dis, dp_mono sm gw⟩
  · cases h
    obtain ⟨p, xs, rfl, hs, g⟩ := dp_tup p1
    refine .inr (.inl ⟨p, rfl, ⟨xs, sqt_ov d1 hs⟩, q _ H1 s1 d1 ⟨fun {H T} i sm dis hi => ?_, fun {H T} sm dis => ?_, fun {H T} i {x Hc d} sm dis hd y => ?_⟩⟩)
    · rw [← dpa_len g] at hi
      exact ⟨xs, xs[i], sqt_ov dis (Same.sqt sm hs), by simp [hi]⟩
    · exact ⟨xs, sqt_ov dis (Same.sqt sm hs), by rw [dpa_len g]; exact Nat.le_refl _⟩
    · obtain ⟨rfl, y⟩ := y
      obtain ⟨w, hw, gw⟩ := dpa_get g hd
      have := y xs (sqt_ov dis (Same.sqt sm hs))
      rw [hw] at this
      cases this
      exact ⟨H, rfl, Same.refl H, dis, dp_mono sm gw⟩
  · rename_i z
    cases h
    refine .inr (.inr ⟨z, dp_str p1, q _ H1 s1 d1 ⟨fun {H T} i sm dis hi => ?_, fun {H T} sm dis => ?_, fun {H T} i {x Hc d} sm dis hd y => ?_⟩⟩)
    · rw [List.length_map, Array.length_toList] at hi
      exact hi
    · show z.cps.size ≤ _
      rw [List.length_map, Array.length_toList]
      exact Nat.le_refl _
    · obtain ⟨rfl, c, hc, rfl⟩ := y
      rw [List.getElem?_map, Array.getElem?_toList, hc] at hd
      cases hd
      exact ⟨H, rfl, Same.refl H, dis, .str _⟩
  · cases h
/-- range(n), range(a, b) -/
def upto (lo : Int) (n : Nat) : List D := (List.range n).map fun (i : Nat) => PyData.int (lo + (i : Int))
def mRange (a : En → Option (List D)) : En → Option (List D) := fun ρ => (a ρ).bind fun ds => match ds with
  | [.int j] => if -(2 ^ 62) ≤ j ∧ j < 2 ^ 62 then some (upto 0 j.toNat) else none
  | [.int i, .int j] => if -(2 ^ 62) ≤ i ∧ i < 2 ^ 62 ∧ -(2 ^ 62) ≤ j ∧ j < 2 ^ 62 then some (upto i (j - i).toNat) else none
  | _ => none
theorem wk_range {Hm : Hp} {lo : Int} {n : Nat} : Wk K (Itr lo n) Hm (upto lo n) := by
  refine ⟨fun {H T} i sm dis hi => ?_, fun {H T} sm dis => ?_, fun {H T} i {x Hc d} sm dis hd y => ?_⟩
  · unfold upto at hi
    rw [List.length_map, List.length_range] at hi
    exact hi
  · unfold upto
    rw [List.length_map, List.length_range]
    exact Nat.le_refl _
  · obtain ⟨rfl, rfl⟩ := y
    unfold upto at hd
    rw [List.getElem?_map] at hd
    by_cases hi : i < n
    · rw [List.getElem?_range hi] at hd
      cases hd
      exact ⟨H, rfl, Same.refl H, dis, .int _⟩
    · rw [List.getElem?_eq_none (by simpa using hi)] at hd
      cases hd
theorem it_range1 {ta : TA} {m : En → Option (List D)} (ha : TAm K ta m) : IT K (iRng1 ta) (mRange fun ρ => (m ρ).bind fun ds => if ds.length = 1 then some ds else none) := by
  refine ⟨fun {H0 T0 σ ρ H T ds} G h R q => ?_⟩
  obtain ⟨x, hx, h⟩ := bind_some h
  obtain ⟨y, hy, hx⟩ := bind_some hx
  split at hx
  · rename_i hl
    cases hx
    refine ha.run G hy _ fun vs H1 s1 d1 p1 => ?_
    split at h
    · split at h
      · rename_i hb
        cases h
        obtain ⟨v, rfl, g⟩ := dpa_one p1
        cases dp_int g
        exact ⟨_, rfl, hb.1, hb.2, q _ H1 s1 d1 wk_range⟩
      · cases h
    · cases hl
    · cases h
  · cases hx
theorem it_range2 {ta : TA} {m : En → Option (List D)} (ha : TAm K ta m) : IT K (iRng2 ta) (mRange fun ρ => (m ρ).bind fun ds => if ds.length = 2 then some ds else none) := by
  refine ⟨fun {H0 T0 σ ρ H T ds} G h R q => ?_⟩
  obtain ⟨x, hx, h⟩ := bind_some h
  obtain ⟨y, hy, hx⟩ := bind_some hx
  split at hx
  · rename_i hl
    cases hx
    refine ha.run G hy _ fun vs H1 s1 d1 p1 => ?_
    split at h
    · cases hl
    · split at h
      · rename_i hb
        cases h
        obtain ⟨u, v, rfl, g1, g2⟩ := dpa_two p1
        cases dp_int g1
        cases dp_int g2
        exact ⟨_, _, rfl, hb, q _ H1 s1 d1 wk_range⟩
      · cases h
    · cases h
  · cases hx

/-! ### targets of several names -/
def gNilM (ds : List D) (ρ : En) : Option En := match ds with
  | [] => some ρ
  | _ => none
def gConsM (g : D → En → Option En) (r : List D → En → Option En) (ds : List D) (ρ : En) : Option En := match ds with
  | d :: es => (g d ρ).bind fun ρ1 => r es ρ1
  | [] => none
def gTupM (n : Nat) (g : List D → En → Option En) (d : D) (ρ : En) : Option En := match d with
  | .tuple ds => if ds.length = n then g ds ρ else none
  | _ => none
theorem tgs_nil {vs : List Nat} : TGsm K vs gNil gNilM := by
  refine ⟨fun {H0 T0 σ ρ ρ2 H T xs ds} G g h Q q => ?_⟩
  unfold gNilM at h
  split at h
  · cases h
    cases g
    exact ⟨rfl, q σ H G (Same.refl H) rfl⟩
  · cases h
theorem tgs_cons {vs : List Nat} {g : TG} {gs : TGs} {mg : D → En → Option En} {mr : List D → En → Option En} (h1 : TGm K vs g mg) (h2 : TGsm K vs gs mr) : TGsm K vs (gCons g gs) (gConsM mg mr) := by
  refine ⟨fun {H0 T0 σ ρ ρ2 H T xs ds} G g h Q q => ?_⟩
  unfold gConsM at h
  split at h
  · obtain ⟨ρ1, e1, h⟩ := bind_some h
    cases g with
    | cons a b =>
      refine ⟨_, _, rfl, ?_⟩
      refine h1.run G a e1 _ fun σ2 H2 G2 s2 w2 => ?_
      exact h2.run G2 (dpa_mono s2 b) h _ fun σ3 H3 G3 s3 w3 => q σ3 H3 G3 (s2.trans s3) (w3.trans w2)
  · cases h
theorem tg_tup {vs : List Nat} {n : Nat} {gs : TGs} {mr : List D → En → Option En} (h : TGsm K vs gs mr) : TGm K vs (gTup K n gs) (gTupM n mr) := by
  refine ⟨fun {H0 T0 σ ρ ρ2 H T v d} G g e Q q => ?_⟩
  unfold gTupM at e
  split at e
  · split at e
    · rename_i hn
      obtain ⟨p, xs, rfl, hs, ga⟩ := dp_tup g
      exact ⟨p, xs, rfl, sqt_ov G.dis hs, by rw [dpa_len ga]; exact hn, h.run G ga e Q q⟩
    · cases e
  · cases e

/-! ### comprehensions -/
def wipeM (ρ : En) : List Nat → En
  | [] => ρ
  | v :: vs => (wipeM ρ vs).set v none
def coll (g : D → En → Option En) (c : En → Option Bool) (e : En → Option D) (ρ : En) : List D → Option (List D)
  | [] => some []
  | d :: ds => (g d ρ).bind fun ρ1 => (c ρ1).bind fun b => if b = true then (e ρ1).bind fun x => (coll g c e ρ ds).map fun r => x :: r else coll g c e ρ ds
def mLc (it : En → Option (List D)) (g : D → En → Option En) (c : En → Option Bool) (e : En → Option D) (vs : List Nat) : En → Option (List D) := fun ρ => (it ρ).bind fun ds => if ds.length ≤ cap then coll g c e (wipeM ρ vs) ds else none
def mYes : En → Option Bool := fun _ => some true
theorem et_yes : TTm K tYes mYes := ⟨fun {H0 T0 σ ρ H T b} G h Q q => by cases h; exact q H (Same.refl H) G.dis⟩
theorem Good.drop {K : PySem.W.Frag} {H0 H : Hp} {T0 T : Ov} {σ : L2.St} {ρ : En} (i : Nat) (G : Good K H0 T0 σ ρ H T) : Good K H0 T0 (σ.set i none) (ρ.set i none) H T := by
  refine ⟨by rw [List.length_set, List.length_set]; exact G.len, fun j x h => ?_, fun j x h => ?_, fun j k ds es p h1 h2 h3 h4 => ?_, G.dis, G.ext, G.ex⟩
  · rcases get_set h with ⟨_, q, _⟩ | ⟨e, q⟩
    · cases q
    · obtain ⟨w, a, b⟩ := G.val j x q
      exact ⟨w, by rw [List.getElem?_set_ne (Ne.symm e)]; exact a, b⟩
  · rcases get_set h with ⟨_, q, _⟩ | ⟨e, q⟩
    · cases q
    · obtain ⟨p, xs, a, b⟩ := G.own j x q
      exact ⟨p, xs, by rw [List.getElem?_set_ne (Ne.symm e)]; exact a, b⟩
  · rcases get_set h1 with ⟨_, q, _⟩ | ⟨e1, q1⟩
    · cases q
    · rcases get_set h2 with ⟨_, q, _⟩ | ⟨e2, q2⟩
      · cases q
      · rw [List.getElem?_set_ne (Ne.symm e1)] at h3
        rw [List.getElem?_set_ne (Ne.symm e2)] at h4
        exact G.inj j k ds es p q1 q2 h3 h4
theorem Good.wipe {K : PySem.W.Frag} {H0 H : Hp} {T0 T : Ov} {σ : L2.St} {ρ : En} (G : Good K H0 T0 σ ρ H T) : ∀ vs : List Nat, Good K H0 T0 (wipe σ vs) (wipeM ρ vs) H T
  | [] => G
  | v :: vs => (Good.wipe G vs).drop v
theorem wipe_wipe (σ : L2.St) (vs : List Nat) : wipe (wipe σ vs) vs = wipe σ vs := by
  apply List.ext_getElem?
  intro i
  have key : ∀ (vs : List Nat) (σ : L2.St), (wipe σ vs)[i]? = if i ∈ vs then (if i < σ.length then some none else none) else σ[i]? := by
    intro vs
    induction vs with
    | nil => intro σ; simp [L2.wipe]
    | cons v r ih =>
      intro σ
      show ((L2.wipe σ r).set v none)[i]? = _
      by_cases h : v = i
      · subst h
        rw [List.getElem?_set]
        simp [wipe_length]
      · rw [List.getElem?_set_ne h, ih σ]
        have : (i ∈ v :: r) ↔ i ∈ r := by simp [Ne.symm h]
        simp only [this]
  rw [key vs (wipe σ vs), key vs σ, wipe_length]
  split <;> rfl
/-- one list more of one's own, known to no slot -/
theorem Good.more {K : PySem.W.Frag} {H0 H : Hp} {T0 T : Ov} {σ : L2.St} {ρ : En} {p : Addr} {xs : List V} (G : Good K H0 T0 σ ρ H T) (hp : ov H T p = none) : Good K H0 T0 σ ρ H (put T p xs) := by
  obtain ⟨hT, hH⟩ := ov_free hp
  have ne : ∀ a ys, T a = some ys → a ≠ p := fun a ys e z => by rw [z, hT] at e; cases e
  exact ⟨G.len, G.val, fun i ds h => let ⟨r, ys, a, b, c⟩ := G.own i ds h; ⟨r, ys, a, by rw [put_ne (ne r ys b)]; exact b, c⟩, G.inj, dis_put G.dis hH, fun a ys e => by rw [put_ne (ne a ys (G.ext a ys e))]; exact G.ext a ys e, G.ex⟩
theorem put_put {T : Ov} {p : Addr} {xs ys : List V} : put (put T p xs) p ys = put T p ys := by
  funext a
  unfold put
  split <;> rfl
theorem fl_lc {wi : TI} {g : TG} {tt : TT} {te : TE} {vs : List Nat} {mi : En → Option (List D)} {mg : D → En → Option En} {mc : En → Option Bool} {me : En → Option D}
    (hi : IT K wi mi) (hg : TGm K vs g mg) (ht : TTm K tt mc) (he : ET K te me) : FL K (tLc wi g tt te vs) (mLc mi mg mc me vs) := by
  refine ⟨fun {H0 T0 σ ρ H T out} G h Q q => ?_⟩
  obtain ⟨ds, hd, h⟩ := bind_some h
  split at h
  · rename_i hz
    refine hi.run G hd _ fun J Hm s1 d1 w => ?_
    intro Dl hD
    obtain ⟨nT, nH⟩ := ov_free hD
    have G1 := (G.mono s1 d1).wipe vs
    refine ⟨fun i m Hc => i ≤ ds.length ∧ m = ds.length - i ∧ ∃ H1 acc as r, Hc = ov H1 (put T Dl acc) ∧ Same Hm H1 ∧ Dis H1 T ∧ H1 Dl = none ∧ DpAll K H1 acc as ∧ acc.length ≤ i ∧ coll mg mc me (wipeM ρ vs) (ds.drop i) = some r ∧ out = as ++ r,
      ⟨ds.length, Nat.zero_le _, rfl, Hm, [], [], out, by rw [upd_put], Same.refl Hm, d1, nH, .nil, Nat.le_refl _, h, rfl⟩, ?_⟩
    rintro i m Hc ⟨hil, rfl, H1, acc, as, r, rfl, sm, dis, nD, ga, hac, hc, eo⟩
    have dput : Dis H1 (put T Dl acc) := dis_put dis nD
    by_cases hlt : i < ds.length
    · have hge : ds[i]? = some ds[i] := List.getElem?_eq_getElem hlt
      rw [List.drop_eq_getElem_cons hlt] at hc
      obtain ⟨ρ2, h2, hc⟩ := bind_some hc
      obtain ⟨b, hb, hc⟩ := bind_some hc
      refine .inr ⟨w.go i sm dput hlt, fun Hc' => ∃ H1 acc as r, Hc' = ov H1 (put T Dl acc) ∧ Same Hm H1 ∧ Dis H1 T ∧ H1 Dl = none ∧ DpAll K H1 acc as ∧ acc.length ≤ i + 1 ∧ coll mg mc me (wipeM ρ vs) (ds.drop (i + 1)) = some r ∧ out = as ++ r,
        fun Hc' ⟨H1, acc, as, r, a1, a2, a3, a4, a5, a6, a7, a8⟩ => ⟨ds.length - (i + 1), by omega, by omega, rfl, H1, acc, as, r, a1, a2, a3, a4, a5, a6, a7, a8⟩, fun x Hc' y => ?_⟩
      obtain ⟨H2, rfl, s2, d2, p2⟩ := w.yld i sm dput hge y
      have fr : ∀ {H' : Hp}, Dis H' (put T Dl acc) → Dis H' T ∧ H' Dl = none := fun {H'} d => ⟨fun a xs e => by
        by_cases z : a = Dl
        · rw [z, nT] at e; cases e
        · exact d a xs (by rw [put_ne z]; exact e), d Dl acc put_same⟩
      have G2 : Good K H0 T0 (L2.wipe σ vs) (wipeM ρ vs) H2 (put T Dl acc) := (((G.mono s1 d1).wipe vs).more hD).mono (sm.trans s2) d2
      refine hg.run G2 p2 h2 _ fun σ3 H3 G3 s3 w3 => ⟨by rw [w3, wipe_wipe], ?_⟩
      refine ht.run G3 hb _ fun H4 s4 d4 => ?_
      have G4 := G3.mono s4 d4
      cases b with
      | true =>
        rw [if_pos rfl] at hc ⊢
        obtain ⟨z, hz2, hc⟩ := bind_some hc
        obtain ⟨r', hr, hc⟩ := map_some hc
        refine he.run G4 hz2 _ fun v H5 s5 d5 p5 => ?_
        obtain ⟨dT, dn⟩ := fr d5
        refine ⟨acc, ov_own put_same, cap_lt (Nat.le_trans hac (Nat.le_trans (Nat.le_of_lt hlt) hz)), H5, acc ++ [v], as ++ [z], r', by rw [upd_put, put_put], (sm.trans s2).trans ((s3.trans s4).trans s5), dT, dn, dpa_snoc (dpa_mono (s2.trans ((s3.trans s4).trans s5)) ga) p5, by rw [List.length_append, List.length_singleton]; omega, hr, ?_⟩
        rw [eo, ← hc, List.append_assoc]
        rfl
      | false =>
        rw [if_neg Bool.false_ne_true] at hc ⊢
        obtain ⟨dT, dn⟩ := fr d4
        exact ⟨H4, acc, as, r, rfl, (sm.trans s2).trans (s3.trans s4), dT, dn, dpa_mono (s2.trans (s3.trans s4)) ga, by omega, hc, eo⟩
    · have e : i = ds.length := by omega
      subst e
      rw [List.drop_length] at hc
      cases hc
      rw [List.append_nil] at eo
      subst eo
      refine .inl ⟨w.stop sm dput, ?_⟩
      rw [← upd_put]
      have hfree : ov H1 T Dl = none := by rw [ov_none nT]; exact nD
      exact q Dl acc H1 (s1.trans sm) dis hfree ga
  · cases h

/-! ### a def -/
def start0 (N : Nat) (ds : List D) : En := ds.map (fun d => some (.val d)) ++ List.replicate (N - ds.length) none
def mDef (N : Nat) (b : En → Option Fl) (ds : List D) : Option D := (b (start0 N ds)).bind fun f => match f with
  | .rt d => some d
  | .nx _ => some .none
  | _ => none
theorem good_start {N : List Str} {vs : List V} {ds : List D} {H : Hp} {T : Ov} (h : DpAll K H vs ds) (d : Dis H T) : Good K H T (start N vs) (start0 N.length ds) H T := by
  have hl := dpa_len h
  have at0 : ∀ (i : Nat) (s : Sl), (start0 N.length ds)[i]? = some (some s) → ∃ d, ds[i]? = some d ∧ s = .val d := by
    intro i s e
    unfold start0 at e
    by_cases hi : i < ds.length
    · rw [List.getElem?_append_left (by simpa using hi), List.getElem?_map, List.getElem?_eq_getElem hi] at e
      cases e
      exact ⟨ds[i], List.getElem?_eq_getElem hi, rfl⟩
    · rw [List.getElem?_append_right (by simpa using hi), List.getElem?_replicate] at e
      split at e <;> cases e
  refine ⟨?_, fun i x e => ?_, fun i x e => ?_, fun i j as bs p e1 e2 _ _ => ?_, d, fun a xs e => e, Same.refl H⟩
  · unfold L2.start start0
    rw [List.length_append, List.length_append, List.length_map, List.length_map, List.length_replicate, List.length_replicate, hl]
  · obtain ⟨d, hd, es⟩ := at0 i _ e
    cases es
    obtain ⟨v, hv, g⟩ := dpa_get h hd
    refine ⟨v, ?_, g⟩
    unfold L2.start
    rw [List.getElem?_append_left (by rw [List.length_map]; exact (List.getElem?_eq_some_iff.mp hv).1), List.getElem?_map, hv]
    rfl
  · obtain ⟨d, hd, es⟩ := at0 i _ e
    cases es
  · obtain ⟨d, hd, es⟩ := at0 i _ e1
    cases es
/-- the caller's lists out of the way again -/
theorem back {H0 H : Hp} {T0 T : Ov} (d0 : Dis H0 T0) (s : Same H0 H) (d : Dis H T) (e : Ext T0 T) : ∃ H', ov H T = ov H' T0 ∧ Same H0 H' ∧ Dis H' T0 ∧ Same H H' := by
  refine ⟨fun a => match T0 a with | some _ => none | none => ov H T a, ?_, fun a o h => ?_, fun a xs h => ?_, fun a o h => ?_⟩
  · funext a
    cases q : T0 a with
    | some xs => rw [ov_own q, ov_own (e a xs q)]
    | none =>
      rw [ov_none q]
      show ov H T a = match T0 a with | some _ => none | none => ov H T a
      rw [q]
  · have q : T0 a = none := by
      cases q : T0 a with
      | none => rfl
      | some xs => have := d0 a xs q; rw [h] at this; cases this
    show (match T0 a with | some _ => none | none => ov H T a) = some o
    rw [q]
    exact same_ov d a o (s a o h)
  · show (match T0 a with | some _ => none | none => ov H T a) = none
    rw [h]
  · have q : T0 a = none := by
      cases q : T0 a with
      | none => rfl
      | some xs => have := d a xs (e a xs q); rw [h] at this; cases this
    show (match T0 a with | some _ => none | none => ov H T a) = some o
    rw [q]
    exact same_ov d a o h
theorem def_ok {P : Program} {w : World} {mg : Str → Option Value} {base : Heap} {x qual : Str} {st : Stmt} {f : Addr} {fd : FuncData} {N ps : List Str} {k : Nat} {mb : En → Option Fl} (F : Fun K x qual st f fd) (S : FnScope N ps (defScope st))
    (hbody : ∀ (cdv : Value) (A : Around) (outer : List Env) (s : Shared) (H : Hp) (E : XK), Room k (A.deeper (envOfC qual (defScope st) s.heap.objs.size f cdv)) →
      ∃ t, PSs (cxOf CX0 P w K mg base N qual (defScope st) f cdv A outer s H E).nox (defBody st) t ∧ TSm K t mb) : FnOk P w K mg base CX0 (k + 1) f fd ps (spM K ps.length (mDef N.length mb)) := by
  refine F.ok S (fun vs H Q E h => ?_) (fun cdv A outer s Hx vs Q E hr h => ?_)
  · obtain ⟨ds, d, H, T, g, hn, _⟩ := h
    rw [dpa_len g, hn]
  · obtain ⟨ds, d, H, T, g, hn, hm, rfl, dis, q⟩ := h
    obtain ⟨t, p, m⟩ := hbody cdv A outer s (ov H T) E hr
    refine ⟨t, p, ?_⟩
    obtain ⟨fl, hf, hm⟩ := bind_some hm
    refine m.run (good_start g dis) hf _ ?_
    cases fl with
    | rt d' =>
      cases hm
      intro v H' T' s1 d1 e1 p1
      obtain ⟨H2, e2, s2, d2, s3⟩ := back dis s1 d1 e1
      show Q v (ov H' T')
      rw [e2]
      exact q v H2 s2 d2 (dp_mono s3 p1)
    | nx ρ =>
      cases hm
      intro σ' H' T' G'
      obtain ⟨H2, e2, s2, d2, s3⟩ := back dis G'.ex G'.dis G'.ext
      show Q .non (ov H' T')
      rw [e2]
      exact q _ H2 s2 d2 .non
    | bk ρ => cases hm
    | ct ρ => cases hm
end
end DD

set_option Elab.async false
set_option linter.all false
set_option maxRecDepth 100000
set_option maxHeartbeats 4000000
namespace DD
open PySem PySem.Spec PyProof.Rows L2
def dLt : D → D → Option D := dCmp fun i j => decide (i < j)
def dLe : D → D → Option D := dCmp fun i j => decide (i ≤ j)
def dGt : D → D → Option D := dCmp fun i j => decide (j < i)
def dGe : D → D → Option D := dCmp fun i j => decide (j ≤ i)
def lim (n : Nat) (m : List D → Option D) : List D → Option D := fun ds => if ds.length = n then m ds else none
def mRange1 (m : En → Option (List D)) : En → Option (List D) := mRange fun ρ => (m ρ).bind fun ds => if ds.length = 1 then some ds else none
def mRange2 (m : En → Option (List D)) : En → Option (List D) := mRange fun ρ => (m ρ).bind fun ds => if ds.length = 2 then some ds else none
def mIfL (c : En → Option Bool) (a b : En → Option (List D)) : En → Option (List D) := fun ρ => (c ρ).bind fun x => if x = true then a ρ else b ρ
def mStar (a : En → Option D) (b : En → Option (List D)) : En → Option (List D) := fun ρ => (a ρ).bind fun x => match x with
  | .list ds => (b ρ).map fun r => ds ++ r
  | .tuple ds => (b ρ).map fun r => ds ++ r
  | _ => none
def gLstM (n : Nat) (g : List D → En → Option En) (d : D) (ρ : En) : Option En := match d with
  | .list ds => if ds.length = n then g ds ρ else none
  | _ => none
def sPar3 (i j l : Nat) (a b c : En → Option D) : En → Option Fl := fun ρ => (a ρ).bind fun x => (b ρ).bind fun y => (c ρ).map fun z => .nx (((ρ.set i (some (.val x))).set j (some (.val y))).set l (some (.val z)))
def mCatL (a b : En → Option (List D)) : En → Option (List D) := fun ρ => (a ρ).bind fun x => (b ρ).bind fun y => if x.length + y.length ≤ cap then some (x ++ y) else none
section
variable {K : PySem.W.Frag} {te ta tb tc : TE} {ma mb mc : En → Option D}
theorem rd_lt' : RD K (rI0 fun i j => .bl (decide (i < j))) dLt := rd_lt
theorem rd_le' : RD K (rI0 fun i j => .bl (decide (i ≤ j))) dLe := rd_le
theorem rd_gt' : RD K (rI0 fun i j => .bl (decide (j < i))) dGt := rd_gt
theorem rd_ge' : RD K (rI0 fun i j => .bl (decide (j ≤ i))) dGe := rd_ge
theorem hu65 {A : Around} {k : Nat} (hr : Room k A) : A.units + 65 < cLine := by have := hr.un; omega
theorem pt_tr {X : Cx} {a : Expr} {ta : TE} (ha : PE X a ta) (he : ∀ whole, isTrue a X.env whole = (do let v ← whole; standAt a.pos; holding [v] (truthy v))) : PT X a (tTru X.K ta) := pt_truth ha he
theorem ev_call' {n : Nat} {mf : List D → Option D} {t : TA} {m : En → Option (List D)} {E : XK} (ha : TAm K t m) : ET K (tCall (spM K n mf) [] E t) (mCall (lim n mf) m) := ev_call ha
theorem it_range1' {t : TA} {m : En → Option (List D)} (ha : TAm K t m) : IT K (iRng1 t) (mRange1 m) := it_range1 ha
theorem it_range2' {t : TA} {m : En → Option (List D)} (ha : TAm K t m) : IT K (iRng2 t) (mRange2 m) := it_range2 ha
theorem fl_if {tt : TT} {m1 : En → Option Bool} {m2 m3 : En → Option (List D)} (hc : TTm K tt m1) (ha : FL K ta m2) (hb : FL K tb m3) : FL K (tIf tt ta tb) (mIfL m1 m2 m3) := by
  refine ⟨fun {H0 T0 σ ρ H T d} G h Q q => ?_⟩
  obtain ⟨x, hx, h⟩ := bind_some h
  refine hc.run G hx _ fun H1 s1 d1 => ?_
  cases x with
  | true =>
    rw [if_pos rfl] at h ⊢
    exact ha.run (G.mono s1 d1) h _ fun p xs H2 s2 d2 n2 p2 => q p xs H2 (s1.trans s2) d2 n2 p2
  | false =>
    rw [if_neg Bool.false_ne_true] at h ⊢
    exact hb.run (G.mono s1 d1) h _ fun p xs H2 s2 d2 n2 p2 => q p xs H2 (s1.trans s2) d2 n2 p2
theorem ea_star {t : TA} {m : En → Option (List D)} (ha : ET K ta ma) (hr : TAm K t m) : TAm K (StX.tStar K ta t) (mStar ma m) := by
  refine ⟨fun {H0 T0 σ ρ H T ds} G h Q q => ?_⟩
  obtain ⟨x, hx, h⟩ := bind_some h
  refine ha.run G hx _ fun v H1 s1 d1 p1 => ?_
  split at h
  · obtain ⟨r, hr2, h⟩ := map_some h
    subst h
    obtain ⟨p, xs, rfl, hs, g⟩ := dp_lst p1
    refine ⟨p, xs, rfl, .inr (sql_ov d1 hs), ?_⟩
    exact hr.run (G.mono s1 d1) hr2 _ fun vs H2 s2 d2 p2 => q _ H2 (s1.trans s2) d2 (dpa_append (dpa_mono s2 g) p2)
  · obtain ⟨r, hr2, h⟩ := map_some h
    subst h
    obtain ⟨p, xs, rfl, hs, g⟩ := dp_tup p1
    refine ⟨p, xs, rfl, .inl (sqt_ov d1 hs), ?_⟩
    exact hr.run (G.mono s1 d1) hr2 _ fun vs H2 s2 d2 p2 => q _ H2 (s1.trans s2) d2 (dpa_append (dpa_mono s2 g) p2)
  · cases h
theorem st_par3 {i j l : Nat} (ha : ET K ta ma) (hb : ET K tb mb) (hc : ET K tc mc) : TSm K (tPar3 i j l (tCons ta (tCons tb (tCons tc tNil)))) (sPar3 i j l ma mb mc) := by
  refine ⟨fun {H0 T0 σ ρ H T f} G h E q => ?_⟩
  obtain ⟨x, hx, h⟩ := bind_some h
  obtain ⟨y, hy, h⟩ := bind_some h
  obtain ⟨z, hz, h⟩ := map_some h
  subst h
  refine ha.run G hx _ fun v H1 s1 d1 p1 => ?_
  refine hb.run (G.mono s1 d1) hy _ fun w H2 s2 d2 p2 => ?_
  refine hc.run (G.mono (s1.trans s2) d2) hz _ fun u H3 s3 d3 p3 => ⟨v, w, u, rfl, ?_⟩
  exact q _ H3 T ((((G.mono ((s1.trans s2).trans s3) d3).set (dp_mono (s2.trans s3) p1)).set (dp_mono s3 p2)).set p3)
end
end DD
namespace DD
open PySem PySem.Spec PyProof.Rows L2
def fuelOf (i : Nat) (ρ : En) : Nat := match ρ[i]? with
  | some (some (.val (.int k))) => k.toNat + 1
  | _ => 1
end DD

set_option Elab.async false
set_option linter.all false
set_option maxRecDepth 100000
set_option maxHeartbeats 4000000
/-! reckoning with mirrors -/
namespace DD
open PySem PySem.Spec PyProof.Rows L2
section
variable {ρ ρ' : En} {a b : En → Option Fl} {f : Fl} {d e : D}
theorem seq_nx (h : a ρ = some (.nx ρ')) : sSeq a b ρ = b ρ' := by unfold sSeq; rw [h]; rfl
theorem seq_rt (h : a ρ = some (.rt d)) : sSeq a b ρ = some (.rt d) := by unfold sSeq; rw [h]; rfl
theorem if_t {c : En → Option Bool} (h : c ρ = some true) : sIf c a b ρ = a ρ := by unfold sIf; rw [h]; rfl
theorem if_f {c : En → Option Bool} (h : c ρ = some false) : sIf c a b ρ = b ρ := by unfold sIf; rw [h]; rfl
theorem asg_set {m : En → Option D} {i : Nat} (h : m ρ = some d) : sAsg m (gSet i) ρ = some (.nx (ρ.set i (some (.val d)))) := by unfold sAsg; rw [h]; rfl
theorem par_set {m n : En → Option D} {i j : Nat} (h : m ρ = some d) (k : n ρ = some e) : sPar i j m n ρ = some (.nx ((ρ.set i (some (.val d))).set j (some (.val e)))) := by unfold sPar; rw [h, k]; rfl
theorem ret_of {m : En → Option D} (h : m ρ = some d) : sRet m ρ = some (.rt d) := by unfold sRet; rw [h]; rfl
theorem op_of {g : D → D → Option D} {m n : En → Option D} {x y : D} (h : m ρ = some x) (k : n ρ = some y) : mOp g m n ρ = g x y := by unfold mOp; rw [h, k]; rfl
theorem un_of {g : D → Option D} {m : En → Option D} {x : D} (h : m ρ = some x) : mUn g m ρ = g x := by unfold mUn; rw [h]; rfl
theorem call_of {g : List D → Option D} {m : En → Option (List D)} {x : List D} (h : m ρ = some x) : mCall g m ρ = g x := by unfold mCall; rw [h]; rfl
theorem cons_of {m : En → Option D} {n : En → Option (List D)} {x : D} {y : List D} (h : m ρ = some x) (k : n ρ = some y) : mCons m n ρ = some (x :: y) := by unfold mCons; rw [h, k]; rfl
theorem nil_of : mNil ρ = some [] := rfl
theorem test_of {m : En → Option D} {c : Bool} (h : m ρ = some (.bool c)) : mTest m ρ = some c := by unfold mTest; rw [h]; rfl
theorem tru_of {m : En → Option D} {x : D} (h : m ρ = some x) : mTru m ρ = tru x := by unfold mTru; rw [h]; rfl
theorem tup_of {m : En → Option (List D)} {x : List D} (h : m ρ = some x) (k : x.length ≤ cap) : mTup m ρ = some (.tuple x) := by unfold mTup; rw [h]; simp [sized, k]
theorem lst_of {m : En → Option (List D)} {x : List D} (h : m ρ = some x) (k : x.length ≤ cap) : mLst m ρ = some x := by unfold mLst; rw [h]; simp [sized, k]
theorem list_of {m : En → Option (List D)} {x : List D} (h : m ρ = some x) : mList m ρ = some (.list x) := by unfold mList; rw [h]; rfl
theorem lim_of {n : Nat} {m : List D → Option D} {x : List D} (h : x.length = n) : lim n m x = m x := by unfold lim; rw [if_pos h]
theorem lim1 {m : List D → Option D} {x : D} : lim 1 m [x] = m [x] := rfl
theorem lim2 {m : List D → Option D} {x y : D} : lim 2 m [x, y] = m [x, y] := rfl
theorem lim3 {m : List D → Option D} {x y z : D} : lim 3 m [x, y, z] = m [x, y, z] := rfl
theorem or_t {m n : En → Option Bool} (h : m ρ = some true) : mOr m n ρ = some true := by unfold mOr; rw [h]; rfl
theorem or_f {m n : En → Option Bool} (h : m ρ = some false) : mOr m n ρ = n ρ := by unfold mOr; rw [h]; rfl
theorem and_t {m n : En → Option Bool} (h : m ρ = some true) : mAnd m n ρ = n ρ := by unfold mAnd; rw [h]; rfl
theorem and_f {m n : En → Option Bool} (h : m ρ = some false) : mAnd m n ρ = some false := by unfold mAnd; rw [h]; rfl
theorem not_of {m : En → Option Bool} {c : Bool} (h : m ρ = some c) : mNot m ρ = some (!c) := by unfold mNot; rw [h]; rfl
theorem andV_t {m n : En → Option D} (h : m ρ = some (.bool true)) : mAndV m n ρ = n ρ := by unfold mAndV; rw [h]; rfl
theorem andV_f {m n : En → Option D} (h : m ρ = some (.bool false)) : mAndV m n ρ = some (.bool false) := by unfold mAndV; rw [h]; rfl
theorem notV_of {m : En → Option D} {c : Bool} (h : m ρ = some (.bool c)) : mNotV m ρ = some (.bool (!c)) := by unfold mNotV; rw [h]; rfl
theorem ifE_t {c : En → Option Bool} {m n : En → Option D} (h : c ρ = some true) : mIfE c m n ρ = m ρ := by unfold mIfE; rw [h]; rfl
theorem ifE_f {c : En → Option Bool} {m n : En → Option D} (h : c ρ = some false) : mIfE c m n ρ = n ρ := by unfold mIfE; rw [h]; rfl
theorem mDef_rt {N : Nat} {ds : List D} (h : a (start0 N ds) = some (.rt d)) : mDef N a ds = some d := by unfold mDef; rw [h]; rfl
theorem dEq_of (h : SeqAt.shaped d = true) (k : SeqAt.shaped e = true) : dEq d e = some (.bool (PyData.eqv d e)) := by unfold dEq; rw [h, k]; rfl
theorem dNe_of (h : SeqAt.shaped d = true) (k : SeqAt.shaped e = true) : dNe d e = some (.bool (!PyData.eqv d e)) := by unfold dNe; rw [h, k]; rfl
end

theorem dLen_list {ds : List D} (h : ds.length ≤ cap) : dLen [.list ds] = some (.int ds.length) := if_pos h
theorem dLen_tup {ds : List D} (h : ds.length ≤ cap) : dLen [.tuple ds] = some (.int ds.length) := if_pos h
theorem dLen_str {z : Str} (h : z.length ≤ cap) : dLen [.str z] = some (.int z.length) := if_pos h
theorem dMod_of {i j : Int} (h : 0 < j) : dMod (.int i) (.int j) = some (.int (i % j)) := if_pos h
theorem dFdiv_of {i j : Int} (h : 0 < j) (k : j.natAbs < 2 ^ 64) : dFdiv (.int i) (.int j) = some (.int (i / j)) := if_pos ⟨h, by
  have := PySem.Flt.log2_lt_of (show 0 < 64 by decide) k
  omega⟩
theorem dMul_r {i j : Int} (h : -(2 ^ 64) < j) (k : j < 2 ^ 64) : dMul (.int i) (.int j) = some (.int (i * j)) := by
  have : inW j = true := by unfold inW; rw [decide_eq_true h, decide_eq_true k]; rfl
  show (if (inW i || inW j) = true then _ else _) = _
  rw [this, Bool.or_true, if_pos rfl]
theorem whl_t {c : En → Option Bool} {b : En → Option Fl} {n : Nat} {ρ ρ2 : En} (h : c ρ = some true) (k : b ρ = some (.nx ρ2)) : whl c b (n + 1) ρ = whl c b n ρ2 := by
  have : whl c b (n + 1) ρ = (c ρ).bind fun x => if x = true then (b ρ).bind fun f => match f with
      | .nx ρ2 => whl c b n ρ2
      | .ct ρ2 => whl c b n ρ2
      | .bk ρ2 => some (.nx ρ2)
      | .rt d => some (.rt d)
    else some (.nx ρ) := rfl
  rw [this, h]
  show ((b ρ).bind fun f => _) = _
  rw [k]
  rfl
theorem whl_f {c : En → Option Bool} {b : En → Option Fl} {n : Nat} {ρ : En} (h : c ρ = some false) : whl c b (n + 1) ρ = some (.nx ρ) := by
  have : whl c b (n + 1) ρ = (c ρ).bind fun x => if x = true then (b ρ).bind fun f => match f with
      | .nx ρ2 => whl c b n ρ2
      | .ct ρ2 => whl c b n ρ2
      | .bk ρ2 => some (.nx ρ2)
      | .rt d => some (.rt d)
    else some (.nx ρ) := rfl
  rw [this, h]
  rfl

/-! ### comprehensions, loops -/
theorem coll_map {g : D → En → Option En} {e : En → Option D} {ρ : En} {f : D → D} : ∀ {ds : List D}, (∀ d ∈ ds, ∃ ρ1, g d ρ = some ρ1 ∧ e ρ1 = some (f d)) → coll g mYes e ρ ds = some (ds.map f)
  | [], _ => rfl
  | d :: ds, h => by
    obtain ⟨ρ1, h1, h2⟩ := h d List.mem_cons_self
    have ih := coll_map (g := g) (e := e) (ρ := ρ) (f := f) (ds := ds) fun x hx => h x (List.mem_cons_of_mem _ hx)
    have s1 : coll g mYes e ρ (d :: ds) = (g d ρ).bind fun ρ1 => (mYes ρ1).bind fun b => if b = true then (e ρ1).bind fun x => (coll g mYes e ρ ds).map fun r => x :: r else coll g mYes e ρ ds := rfl
    rw [s1, h1]
    show ((e ρ1).bind fun x => (coll g mYes e ρ ds).map fun r => x :: r) = _
    rw [h2, ih]
    rfl
theorem lc_of {it : En → Option (List D)} {g : D → En → Option En} {e : En → Option D} {ρ : En} {vs : List Nat} {ds : List D} {f : D → D} (hi : it ρ = some ds) (hz : ds.length ≤ cap) (h : ∀ d ∈ ds, ∃ ρ1, g d (wipeM ρ vs) = some ρ1 ∧ e ρ1 = some (f d)) :
    mLc it g mYes e vs ρ = some (ds.map f) := by
  unfold mLc
  rw [hi]
  show (if ds.length ≤ cap then _ else _) = _
  rw [if_pos hz]
  exact coll_map h
theorem bools_map (p : D → Bool) : ∀ ds : List D, bools (ds.map fun d => .bool (p d)) = some (ds.map p)
  | [] => rfl
  | d :: ds => by
    show (bools (ds.map fun d => .bool (p d))).map _ = _
    rw [bools_map p ds]
    rfl
theorem dAll_map (p : D → Bool) (ds : List D) : dAll [.list (ds.map fun d => .bool (p d))] = some (.bool (ds.all p)) := by
  show (bools (ds.map fun d => .bool (p d))).map (fun bs => PyData.bool (bs.all id)) = _
  rw [bools_map]
  show some (PyData.bool ((ds.map p).all id)) = _
  rw [List.all_map]
  rfl
theorem iter_tup {a : En → Option D} {ρ : En} {ds : List D} (h : a ρ = some (.tuple ds)) : mIter a ρ = some ds := by unfold mIter; rw [h]; rfl
theorem iter_lst {a : En → Option D} {ρ : En} {ds : List D} (h : a ρ = some (.list ds)) : mIter a ρ = some ds := by unfold mIter; rw [h]; rfl
theorem chain_of {g h : D → D → Option D} {a b c : En → Option D} {ρ : En} {x y z : D} {p q : Bool} (ha : a ρ = some x) (hb : b ρ = some y) (hc : c ρ = some z) (e1 : g x y = some (.bool p)) (e2 : h y z = some (.bool q)) : mChain g h a b c ρ = some (.bool (p && q)) := by
  unfold mChain
  rw [ha]
  show ((b ρ).bind fun y => _) = _
  rw [hb]
  show ((g x y).bind fun z => _) = _
  rw [e1]
  show (if p = true then (c ρ).bind fun w => h y w else some (.bool false)) = _
  cases p with
  | true => rw [if_pos rfl, hc]; show h y z = _; rw [e2]; rfl
  | false => rw [if_neg Bool.false_ne_true]; rfl

/-! ### a drawn number -/
def kIn (ρ : En) (i : Nat) (d : D) : Prop := ρ[i]? = some (some (.val d))
theorem var_of {ρ : En} {i : Nat} {d : D} (h : ρ[i]? = some (some (.val d))) : mVar i ρ = some d := by unfold mVar; rw [h]

def b_pick : En → Option Fl :=
  (sSeq (sAsg (mIfE (mTest (mOp dNe (mVar 0) (mList (mLst mNil)))) (mOp dIx (mVar 0) (mOp dMod (mVar 1) (mCall dLen (mCons (mVar 0) mNil)))) (mC (.int 0))) (gSet 3))
  (sSeq (sPar 4 5 (mOp dFdiv (mVar 3) (mOp dPow (mC (.int 10)) (mC (.int 18)))) (mOp dFdiv (mVar 1) (mCall dMax2 (mCons (mCall dLen (mCons (mVar 0) mNil)) (mCons (mC (.int 1)) mNil)))))
  (sSeq (sWhile (fun ρ => fuelOf 5 ρ) (mAnd (mTest (mOp dGt (mVar 4) (mC (.int 0)))) (mTest (mOp dGt (mVar 5) (mC (.int 0)))))
  (sPar 4 5 (mOp dFdiv (mVar 4) (mC (.int 840))) (mOp dSub (mVar 5) (mC (.int 1)))))
  (sSeq (sIf (mTest (mOp dGt (mVar 4) (mC (.int 0))))
  (sRet (mOp dMod (mOp dMod (mVar 4) (mC (.int 840))) (mVar 2)))
  sNext)
  (sSeq (sAsg (mOp dMod (mOp dMul (mOp dAdd (mOp dMul (mVar 3) (mC (.int 31))) (mOp dMul (mC (.int 6151)) (mOp dAdd (mVar 1) (mC (.int 1))))) (mC (.int 40692))) (mC (.int 2147483399))) (gSet 6))
  (sRet (mOp dMod (mOp dMod (mOp dAdd (mOp dMul (mVar 6) (mVar 6)) (mOp dFdiv (mVar 6) (mC (.int 31)))) (mC (.int 2147483629))) (mVar 2))))))))
def m_pick (ds : List D) : Option D := mDef 7 b_pick ds

theorem shaped_ints (ns : List Int) : SeqAt.shaped (.list (ns.map PyData.int)) = true := by
  have h1 : ∀ ns : List Int, PyData.canLayAll0 (ns.map PyData.int) = true := by
    intro ns
    induction ns with
    | nil => simp [PyData.canLayAll0]
    | cons n r ih => simp [PyData.canLayAll0, PyData.canLay0, ih]
  have h2 : ∀ ns : List Int, PyData.depthAll (ns.map PyData.int) = 0 := by
    intro ns
    induction ns with
    | nil => simp [PyData.depthAll]
    | cons n r ih => simp [PyData.depthAll, PyData.depth, ih]
  unfold SeqAt.shaped
  simp [PyData.canLay0, PyData.depth, h1, h2]
theorem shaped_nil : SeqAt.shaped (.list []) = true := shaped_ints []
theorem eqv_nil (ns : List Int) : PyData.eqv (.list (ns.map PyData.int)) (.list []) = ns.isEmpty := by
  cases ns <;> simp [PyData.eqv, PyData.eqvAll]
/-- the loop of a drawn number: rest and turn stay ints -/
theorem pick_loop : ∀ (n : Nat) (x : Int) (ρ : En) (sc k many c : D) (r t : Int) (g : Option Sl), 0 ≤ t → t.toNat + 1 = n →
    ∃ r' t' : Int, whl (mAnd (mTest (mOp dGt (mVar 4) (mC (.int 0)))) (mTest (mOp dGt (mVar 5) (mC (.int 0))))) (sPar 4 5 (mOp dFdiv (mVar 4) (mC (.int 840))) (mOp dSub (mVar 5) (mC (.int 1)))) n
      [some (.val sc), some (.val k), some (.val many), some (.val c), some (.val (.int r)), some (.val (.int t)), g] = some (.nx [some (.val sc), some (.val k), some (.val many), some (.val c), some (.val (.int r')), some (.val (.int t')), g])
  | 0, _, _, _, _, _, _, _, _, _, h, e => by omega
  | n + 1, x, ρ, sc, k, many, c, r, t, g, h, e => by
    have hc : mAnd (mTest (mOp dGt (mVar 4) (mC (.int 0)))) (mTest (mOp dGt (mVar 5) (mC (.int 0)))) [some (.val sc), some (.val k), some (.val many), some (.val c), some (.val (.int r)), some (.val (.int t)), g] = some (decide (0 < r) && decide (0 < t)) := by
      have a1 : mTest (mOp dGt (mVar 4) (mC (.int 0))) [some (.val sc), some (.val k), some (.val many), some (.val c), some (.val (.int r)), some (.val (.int t)), g] = some (decide (0 < r)) := rfl
      have a2 : mTest (mOp dGt (mVar 5) (mC (.int 0))) [some (.val sc), some (.val k), some (.val many), some (.val c), some (.val (.int r)), some (.val (.int t)), g] = some (decide (0 < t)) := rfl
      cases hq : decide (0 < r) with
      | true => rw [hq] at a1; rw [and_t a1, a2, Bool.true_and]
      | false => rw [hq] at a1; rw [and_f a1, Bool.false_and]
    cases hq : (decide (0 < r) && decide (0 < t)) with
    | true =>
      rw [hq] at hc
      rw [Bool.and_eq_true] at hq
      have ht : 0 < t := of_decide_eq_true hq.2
      have b1 : mOp dFdiv (mVar 4) (mC (.int 840)) [some (.val sc), some (.val k), some (.val many), some (.val c), some (.val (.int r)), some (.val (.int t)), g] = some (.int (r / 840)) := by
        rw [op_of (show mVar 4 _ = some (.int r) from rfl) (show mC (.int 840) _ = some (.int 840) from rfl)]
        exact dFdiv_of (by decide) (by decide)
      have b2 : mOp dSub (mVar 5) (mC (.int 1)) [some (.val sc), some (.val k), some (.val many), some (.val c), some (.val (.int r)), some (.val (.int t)), g] = some (.int (t - 1)) := rfl
      have hb := par_set (i := 4) (j := 5) b1 b2
      rw [whl_t hc hb]
      exact pick_loop n x ρ sc k many c (r / 840) (t - 1) g (by omega) (by omega)
    | false =>
      rw [hq] at hc
      rw [whl_f hc]
      exact ⟨r, t, rfl⟩
theorem log18 : ((10 : Int) ^ 18).natAbs.log2 < 9000 := by decide +kernel
theorem pick_ok (ns : List Int) (h63 : ns.length ≤ 63) (k many : Int) (hk : 0 ≤ k) (hk2 : k ≤ 100000) (hm : 1 ≤ many) (hm2 : many ≤ 2000000000) :
    ∃ r : Int, m_pick [.list (ns.map .int), .int k, .int many] = some (.int r) ∧ 0 ≤ r ∧ r < many := by
  have hlen : ((ns.map PyData.int).length : Nat) ≤ cap := by rw [List.length_map]; exact Nat.le_trans h63 (by decide)
  -- the cell
  have hcell : ∃ c : Int, mIfE (mTest (mOp dNe (mVar 0) (mList (mLst mNil)))) (mOp dIx (mVar 0) (mOp dMod (mVar 1) (mCall dLen (mCons (mVar 0) mNil)))) (mC (.int 0)) (start0 7 [.list (ns.map .int), .int k, .int many]) = some (.int c) := by
    have t0 : mTest (mOp dNe (mVar 0) (mList (mLst mNil))) (start0 7 [.list (ns.map .int), .int k, .int many]) = some (!ns.isEmpty) := by
      refine test_of ?_
      have e1 : mVar 0 (start0 7 [.list (ns.map .int), .int k, .int many]) = some (.list (ns.map .int)) := rfl
      have e2 : mList (mLst mNil) (start0 7 [.list (ns.map .int), .int k, .int many]) = some (.list []) := rfl
      rw [op_of e1 e2, dNe_of (shaped_ints ns) shaped_nil, eqv_nil]
    cases hn : ns with
    | nil =>
      subst hn
      exact ⟨0, by rw [ifE_f t0]; rfl⟩
    | cons n0 r0 =>
      have ne : 0 < ns.length := by rw [hn]; exact Nat.succ_pos _
      rw [← hn]
      rw [hn] at t0
      rw [← hn] at t0
      have t1 : mTest (mOp dNe (mVar 0) (mList (mLst mNil))) (start0 7 [.list (ns.map .int), .int k, .int many]) = some true := by
        rw [t0, hn]; rfl
      rw [ifE_t t1]
      have e1 : mVar 0 (start0 7 [.list (ns.map .int), .int k, .int many]) = some (.list (ns.map .int)) := rfl
      have e2 : mOp dMod (mVar 1) (mCall dLen (mCons (mVar 0) mNil)) (start0 7 [.list (ns.map .int), .int k, .int many]) = some (.int (k % (ns.length : Int))) := by
        have e3 : mCall dLen (mCons (mVar 0) mNil) (start0 7 [.list (ns.map .int), .int k, .int many]) = some (.int ns.length) := by
          rw [call_of (cons_of e1 nil_of), dLen_list hlen, List.length_map]
        rw [op_of (show mVar 1 _ = some (.int k) from rfl) e3]
        exact dMod_of (by omega)
      rw [op_of e1 e2]
      have b1 : 0 ≤ k % (ns.length : Int) := Int.emod_nonneg _ (by omega)
      have b2 : k % (ns.length : Int) < ns.length := Int.emod_lt_of_pos _ (by omega)
      obtain ⟨j, hj⟩ : ∃ j : Nat, k % (ns.length : Int) = (j : Int) := ⟨(k % (ns.length : Int)).toNat, by omega⟩
      rw [hj] at b2 ⊢
      have hjl : j < ns.length := by omega
      refine ⟨ns[j], ?_⟩
      show atI (ns.map PyData.int) (j : Int) = _
      exact atI_nat (by rw [List.getElem?_map, List.getElem?_eq_getElem hjl]; rfl)
  obtain ⟨c, hc⟩ := hcell
  have hmax : ∃ y : Int, mCall dMax2 (mCons (mCall dLen (mCons (mVar 0) mNil)) (mCons (mC (.int 1)) mNil)) [some (.val (.list (ns.map .int))), some (.val (.int k)), some (.val (.int many)), some (.val (.int c)), none, none, none] = some (.int y) ∧ 1 ≤ y ∧ y ≤ 63 := by
    have e1 : mVar 0 [some (.val (.list (ns.map .int))), some (.val (.int k)), some (.val (.int many)), some (.val (.int c)), none, none, none] = some (.list (ns.map .int)) := rfl
    have e3 : mCall dLen (mCons (mVar 0) mNil) [some (.val (.list (ns.map .int))), some (.val (.int k)), some (.val (.int many)), some (.val (.int c)), none, none, none] = some (.int ns.length) := by
      rw [call_of (cons_of e1 nil_of), dLen_list hlen, List.length_map]
    rw [call_of (cons_of e3 (cons_of (show mC (.int 1) _ = some (.int 1) from rfl) nil_of))]
    refine ⟨_, rfl, ?_, ?_⟩ <;> (split <;> omega)
  obtain ⟨y, hy, y1, y2⟩ := hmax
  have e2 : sPar 4 5 (mOp dFdiv (mVar 3) (mOp dPow (mC (.int 10)) (mC (.int 18)))) (mOp dFdiv (mVar 1) (mCall dMax2 (mCons (mCall dLen (mCons (mVar 0) mNil)) (mCons (mC (.int 1)) mNil))))
      [some (.val (.list (ns.map .int))), some (.val (.int k)), some (.val (.int many)), some (.val (.int c)), none, none, none] =
      some (.nx [some (.val (.list (ns.map .int))), some (.val (.int k)), some (.val (.int many)), some (.val (.int c)), some (.val (.int (c / 10 ^ 18))), some (.val (.int (k / y))), none]) := by
    have p1 : mOp dPow (mC (.int 10)) (mC (.int 18)) [some (.val (.list (ns.map .int))), some (.val (.int k)), some (.val (.int many)), some (.val (.int c)), none, none, none] = some (.int (10 ^ 18)) := by
      rw [op_of (show mC (.int 10) _ = some (.int 10) from rfl) (show mC (.int 18) _ = some (.int 18) from rfl)]
      rfl
    have p2 : mOp dFdiv (mVar 3) (mOp dPow (mC (.int 10)) (mC (.int 18))) [some (.val (.list (ns.map .int))), some (.val (.int k)), some (.val (.int many)), some (.val (.int c)), none, none, none] = some (.int (c / 10 ^ 18)) := by
      rw [op_of (show mVar 3 _ = some (.int c) from rfl) p1]
      exact dFdiv_of (by decide +kernel) (by decide +kernel)
    have p3 : mOp dFdiv (mVar 1) (mCall dMax2 (mCons (mCall dLen (mCons (mVar 0) mNil)) (mCons (mC (.int 1)) mNil))) [some (.val (.list (ns.map .int))), some (.val (.int k)), some (.val (.int many)), some (.val (.int c)), none, none, none] = some (.int (k / y)) := by
      rw [op_of (show mVar 1 _ = some (.int k) from rfl) hy]
      exact dFdiv_of (by omega) (by omega)
    rw [par_set p2 p3]
    rfl
  have hky : 0 ≤ k / y := Int.ediv_nonneg hk (by omega)
  obtain ⟨r', t', hl⟩ := pick_loop ((k / y).toNat + 1) 0 [] (.list (ns.map .int)) (.int k) (.int many) (.int c) (c / 10 ^ 18) (k / y) none hky rfl
  have fin : ∀ z : Int, ∃ r : Int, (if 0 < many then some (PyData.int (z % many)) else none) = some (.int r) ∧ 0 ≤ r ∧ r < many := fun z =>
    ⟨z % many, by rw [if_pos (by omega)], Int.emod_nonneg _ (by omega), Int.emod_lt_of_pos _ (by omega)⟩
  -- the whole
  have e0 : b_pick (start0 7 [.list (ns.map .int), .int k, .int many]) = (sSeq (sIf (mTest (mOp dGt (mVar 4) (mC (.int 0))))
      (sRet (mOp dMod (mOp dMod (mVar 4) (mC (.int 840))) (mVar 2))) sNext)
      (sSeq (sAsg (mOp dMod (mOp dMul (mOp dAdd (mOp dMul (mVar 3) (mC (.int 31))) (mOp dMul (mC (.int 6151)) (mOp dAdd (mVar 1) (mC (.int 1))))) (mC (.int 40692))) (mC (.int 2147483399))) (gSet 6))
      (sRet (mOp dMod (mOp dMod (mOp dAdd (mOp dMul (mVar 6) (mVar 6)) (mOp dFdiv (mVar 6) (mC (.int 31)))) (mC (.int 2147483629))) (mVar 2)))))
      [some (.val (.list (ns.map .int))), some (.val (.int k)), some (.val (.int many)), some (.val (.int c)), some (.val (.int r')), some (.val (.int t')), none] := by
    unfold b_pick
    rw [seq_nx (asg_set hc)]
    show sSeq _ _ [some (.val (.list (ns.map .int))), some (.val (.int k)), some (.val (.int many)), some (.val (.int c)), none, none, none] = _
    rw [seq_nx e2]
    have hw : sWhile (fun ρ => fuelOf 5 ρ) (mAnd (mTest (mOp dGt (mVar 4) (mC (.int 0)))) (mTest (mOp dGt (mVar 5) (mC (.int 0)))))
        (sPar 4 5 (mOp dFdiv (mVar 4) (mC (.int 840))) (mOp dSub (mVar 5) (mC (.int 1)))) [some (.val (.list (ns.map .int))), some (.val (.int k)), some (.val (.int many)), some (.val (.int c)), some (.val (.int (c / 10 ^ 18))), some (.val (.int (k / y))), none] = _ := hl
    rw [seq_nx hw]
  by_cases hr : 0 < r'
  · have hg : mTest (mOp dGt (mVar 4) (mC (.int 0))) [some (.val (.list (ns.map .int))), some (.val (.int k)), some (.val (.int many)), some (.val (.int c)), some (.val (.int r')), some (.val (.int t')), none] = some true := by
      refine test_of ?_
      rw [op_of (show mVar 4 _ = some (.int r') from rfl) (show mC (.int 0) _ = some (.int 0) from rfl)]
      show some (PyData.bool (decide (0 < r'))) = _
      rw [decide_eq_true hr]
    obtain ⟨r, h1, h2, h3⟩ := fin (r' % 840)
    refine ⟨r, mDef_rt ?_, h2, h3⟩
    rw [e0, seq_rt]
    rw [if_t hg]
    refine ret_of ?_
    have q1 : mOp dMod (mVar 4) (mC (.int 840)) [some (.val (.list (ns.map .int))), some (.val (.int k)), some (.val (.int many)), some (.val (.int c)), some (.val (.int r')), some (.val (.int t')), none] = some (.int (r' % 840)) := rfl
    rw [op_of q1 (show mVar 2 _ = some (.int many) from rfl)]
    exact h1
  · have hg : mTest (mOp dGt (mVar 4) (mC (.int 0))) [some (.val (.list (ns.map .int))), some (.val (.int k)), some (.val (.int many)), some (.val (.int c)), some (.val (.int r')), some (.val (.int t')), none] = some false := by
      refine test_of ?_
      rw [op_of (show mVar 4 _ = some (.int r') from rfl) (show mC (.int 0) _ = some (.int 0) from rfl)]
      show some (PyData.bool (decide (0 < r'))) = _
      rw [decide_eq_false hr]
    have hx : mOp dMod (mOp dMul (mOp dAdd (mOp dMul (mVar 3) (mC (.int 31))) (mOp dMul (mC (.int 6151)) (mOp dAdd (mVar 1) (mC (.int 1))))) (mC (.int 40692))) (mC (.int 2147483399))
        [some (.val (.list (ns.map .int))), some (.val (.int k)), some (.val (.int many)), some (.val (.int c)), some (.val (.int r')), some (.val (.int t')), none] = some (.int ((c * 31 + 6151 * (k + 1)) * 40692 % 2147483399)) := by
      have a1 : mOp dMul (mVar 3) (mC (.int 31)) [some (.val (.list (ns.map .int))), some (.val (.int k)), some (.val (.int many)), some (.val (.int c)), some (.val (.int r')), some (.val (.int t')), none] = some (.int (c * 31)) := by
        rw [op_of (show mVar 3 _ = some (.int c) from rfl) (show mC (.int 31) _ = some (.int 31) from rfl)]
        exact dMul_r (by decide) (by decide)
      have a2 : mOp dMul (mC (.int 6151)) (mOp dAdd (mVar 1) (mC (.int 1))) [some (.val (.list (ns.map .int))), some (.val (.int k)), some (.val (.int many)), some (.val (.int c)), some (.val (.int r')), some (.val (.int t')), none] = some (.int (6151 * (k + 1))) := by
        rw [op_of (show mC (.int 6151) _ = some (.int 6151) from rfl) (show mOp dAdd (mVar 1) (mC (.int 1)) _ = some (.int (k + 1)) from rfl)]
        exact dMul_r (by omega) (by omega)
      have a3 : mOp dAdd (mOp dMul (mVar 3) (mC (.int 31))) (mOp dMul (mC (.int 6151)) (mOp dAdd (mVar 1) (mC (.int 1)))) [some (.val (.list (ns.map .int))), some (.val (.int k)), some (.val (.int many)), some (.val (.int c)), some (.val (.int r')), some (.val (.int t')), none] = some (.int (c * 31 + 6151 * (k + 1))) := by
        rw [op_of a1 a2]
        rfl
      have a4 : mOp dMul (mOp dAdd (mOp dMul (mVar 3) (mC (.int 31))) (mOp dMul (mC (.int 6151)) (mOp dAdd (mVar 1) (mC (.int 1))))) (mC (.int 40692)) [some (.val (.list (ns.map .int))), some (.val (.int k)), some (.val (.int many)), some (.val (.int c)), some (.val (.int r')), some (.val (.int t')), none] = some (.int ((c * 31 + 6151 * (k + 1)) * 40692)) := by
        rw [op_of a3 (show mC (.int 40692) _ = some (.int 40692) from rfl)]
        exact dMul_r (by decide) (by decide)
      rw [op_of a4 (show mC (.int 2147483399) _ = some (.int 2147483399) from rfl)]
      rfl
    let z := (c * 31 + 6151 * (k + 1)) * 40692 % 2147483399
    have z0 : 0 ≤ z := Int.emod_nonneg _ (by decide)
    have z1 : z < 2147483399 := Int.emod_lt_of_pos _ (by decide)
    obtain ⟨r, h1, h2, h3⟩ := fin ((z * z + z / 31) % 2147483629)
    refine ⟨r, mDef_rt ?_, h2, h3⟩
    rw [e0, seq_nx (by rw [if_f hg]; rfl), seq_nx (asg_set hx)]
    refine ret_of ?_
    show mOp dMod (mOp dMod (mOp dAdd (mOp dMul (mVar 6) (mVar 6)) (mOp dFdiv (mVar 6) (mC (.int 31)))) (mC (.int 2147483629))) (mVar 2) [some (.val (.list (ns.map .int))), some (.val (.int k)), some (.val (.int many)), some (.val (.int c)), some (.val (.int r')), some (.val (.int t')), some (.val (.int z))] = _
    have b1 : mOp dMul (mVar 6) (mVar 6) [some (.val (.list (ns.map .int))), some (.val (.int k)), some (.val (.int many)), some (.val (.int c)), some (.val (.int r')), some (.val (.int t')), some (.val (.int z))] = some (.int (z * z)) := by
      rw [op_of (show mVar 6 _ = some (.int z) from rfl) (show mVar 6 _ = some (.int z) from rfl)]
      exact dMul_r (by omega) (by omega)
    have b2 : mOp dFdiv (mVar 6) (mC (.int 31)) [some (.val (.list (ns.map .int))), some (.val (.int k)), some (.val (.int many)), some (.val (.int c)), some (.val (.int r')), some (.val (.int t')), some (.val (.int z))] = some (.int (z / 31)) := by
      rw [op_of (show mVar 6 _ = some (.int z) from rfl) (show mC (.int 31) _ = some (.int 31) from rfl)]
      exact dFdiv_of (by decide) (by decide)
    have b3 : mOp dAdd (mOp dMul (mVar 6) (mVar 6)) (mOp dFdiv (mVar 6) (mC (.int 31))) [some (.val (.list (ns.map .int))), some (.val (.int k)), some (.val (.int many)), some (.val (.int c)), some (.val (.int r')), some (.val (.int t')), some (.val (.int z))] = some (.int (z * z + z / 31)) := by
      rw [op_of b1 b2]
      rfl
    have b4 : mOp dMod (mOp dAdd (mOp dMul (mVar 6) (mVar 6)) (mOp dFdiv (mVar 6) (mC (.int 31)))) (mC (.int 2147483629)) [some (.val (.list (ns.map .int))), some (.val (.int k)), some (.val (.int many)), some (.val (.int c)), some (.val (.int r')), some (.val (.int t')), some (.val (.int z))] = some (.int ((z * z + z / 31) % 2147483629)) := by
      rw [op_of b3 (show mC (.int 2147483629) _ = some (.int 2147483629) from rfl)]
      rfl
    rw [op_of b4 (show mVar 2 _ = some (.int many) from rfl)]
    exact h1
end DD

set_option Elab.async false
set_option linter.all false
set_option maxRecDepth 100000
set_option maxHeartbeats 4000000
/-! records and names: what the mirrors tell -/
namespace DD.R
open PySem PySem.Spec PyProof.Rows L2 DD
def b_is_whole : En → Option Fl :=
  (sRet (mAndV (mUn (dIsi "int") (mVar 0)) (mAndV (mNotV (mUn (dIsi "bool") (mVar 0))) (mChain dLe dLe (mVar 1) (mVar 0) (mVar 2)))))
def m_is_whole (ds : List D) : Option D := mDef 3 b_is_whole ds
def b_is_word : En → Option Fl :=
  (sRet (mCall (lim 3 m_is_whole) (mCons (mVar 0) (mCons (mC (.int 0)) (mCons (mC (.int 9999)) mNil)))))
def m_is_word (ds : List D) : Option D := mDef 1 b_is_word ds
def b_is_name : En → Option Fl :=
  (sSeq (sIf (mOr (mNot (mTru (mUn (dIsi "str") (mVar 0)))) (mNot (mTest (mChain dLe dLe (mC (.int 1)) (mCall dLen (mCons (mVar 0) mNil)) (mC (.int 8))))))
  (sRet (mC (.bool false)))
  sNext)
  (sRet (mCall dAll (mCons (mList (mLc (mIter (mVar 0)) (gSet 1) mYes (mOp dInS (mVar 1) (mC (.str ("abcdefghijklmnopqrstuvwxyz" : Str)))) [1])) mNil))))
def m_is_name (ds : List D) : Option D := mDef 2 b_is_name ds
def b_is_record : En → Option Fl :=
  (sSeq (sIf (mOr (mNot (mTru (mUn (dIsi "tuple") (mVar 0)))) (mNot (mTest (mChain dLe dLe (mC (.int 1)) (mCall dLen (mCons (mVar 0) mNil)) (mC (.int 8))))))
  (sRet (mC (.bool false)))
  sNext)
  (sRet (mCall dAll (mCons (mList (mLc (mIter (mVar 0)) (gSet 1) mYes (mCall (lim 1 m_is_word) (mCons (mVar 1) mNil)) [1])) mNil))))
def m_is_record (ds : List D) : Option D := mDef 2 b_is_record ds
def b_are_records : En → Option Fl :=
  (sSeq (sIf (mOr (mNot (mTru (mUn (dIsi "tuple") (mVar 0)))) (mTest (mOp dGt (mCall dLen (mCons (mVar 0) mNil)) (mC (.int 30)))))
  (sRet (mC (.bool false)))
  sNext)
  (sRet (mCall dAll (mCons (mList (mLc (mIter (mVar 0)) (gSet 1) mYes (mCall (lim 1 m_is_record) (mCons (mVar 1) mNil)) [1])) mNil))))
def m_are_records (ds : List D) : Option D := mDef 2 b_are_records ds

def isWhole (d : D) (lo hi : Int) : Bool := match d with
  | .int i => decide (lo ≤ i) && decide (i ≤ hi)
  | _ => false
def isWord (d : D) : Bool := isWhole d 0 9999
def abc : List Nat := ("abcdefghijklmnopqrstuvwxyz" : Str).cps.toList
def isNam (d : D) : Bool := match d with
  | .str z => (decide ((1 : Int) ≤ z.length) && decide ((z.length : Int) ≤ 8)) && z.cps.toList.all fun c => decide (c ∈ abc)
  | _ => false
def isRec (d : D) : Bool := match d with
  | .tuple ds => (decide ((1 : Int) ≤ ds.length) && decide ((ds.length : Int) ≤ 8)) && ds.all isWord
  | _ => false
def areRecs (d : D) : Bool := match d with
  | .tuple ds => (!decide ((30 : Int) < ds.length)) && ds.all isRec
  | _ => false
/-- no text or row is too long -/
def okLen : D → Prop
  | .tuple ds => ds.length ≤ cap
  | .str z => z.length ≤ cap
  | _ => True
theorem whole_eq (d : D) (lo hi : Int) : m_is_whole [d, .int lo, .int hi] = some (.bool (isWhole d lo hi)) := by
  cases d with
  | int i =>
    refine mDef_rt (ret_of ?_)
    rw [andV_t (show _ = some (PyData.bool true) from rfl), andV_t (show _ = some (PyData.bool true) from rfl)]
    exact chain_of (x := .int lo) (y := .int i) (z := .int hi) rfl rfl rfl rfl rfl
  | _ => rfl
theorem word_eq (d : D) : m_is_word [d] = some (.bool (isWord d)) := by
  refine mDef_rt (ret_of ?_)
  have e : (mCons (mVar 0) (mCons (mC (.int 0)) (mCons (mC (.int 9999)) mNil))) (start0 1 [d]) = some [d, .int 0, .int 9999] := rfl
  rw [call_of e, lim3]
  exact whole_eq d 0 9999
theorem name_eq (d : D) (h : okLen d) : m_is_name [d] = some (.bool (isNam d)) := by
  cases d with
  | str z =>
    have hz : z.length ≤ cap := h
    have c1 : mChain dLe dLe (mC (.int 1)) (mCall dLen (mCons (mVar 0) mNil)) (mC (.int 8)) (start0 2 [.str z]) = some (.bool (decide ((1 : Int) ≤ z.length) && decide ((z.length : Int) ≤ 8))) := by
      refine chain_of (x := .int 1) (y := .int z.length) (z := .int 8) rfl ?_ rfl rfl rfl
      rw [call_of (cons_of (show mVar 0 (start0 2 [.str z]) = some (.str z) from rfl) nil_of), dLen_str hz]
    have c2 : mOr (mNot (mTru (mUn (dIsi "str") (mVar 0)))) (mNot (mTest (mChain dLe dLe (mC (.int 1)) (mCall dLen (mCons (mVar 0) mNil)) (mC (.int 8))))) (start0 2 [.str z]) = some (!(decide ((1 : Int) ≤ z.length) && decide ((z.length : Int) ≤ 8))) := by
      rw [or_f (show mNot (mTru (mUn (dIsi "str") (mVar 0))) (start0 2 [.str z]) = some false from rfl), not_of (test_of c1)]
    show m_is_name [.str z] = some (.bool ((decide ((1 : Int) ≤ z.length) && decide ((z.length : Int) ≤ 8)) && z.cps.toList.all fun c => decide (c ∈ abc)))
    cases hq : (decide ((1 : Int) ≤ z.length) && decide ((z.length : Int) ≤ 8)) with
    | false =>
      rw [hq] at c2
      refine mDef_rt ?_
      unfold b_is_name
      rw [seq_rt (d := .bool false) (by rw [if_t c2]; rfl)]
      rfl
    | true =>
      rw [hq] at c2
      refine mDef_rt ?_
      unfold b_is_name
      rw [seq_nx (by rw [if_f c2]; rfl)]
      refine ret_of ?_
      have hi : mIter (mVar 0) (start0 2 [.str z]) = some (z.cps.toList.map fun c => .str ⟨#[c]⟩) := rfl
      have hlc : mLc (mIter (mVar 0)) (gSet 1) mYes (mOp dInS (mVar 1) (mC (.str ("abcdefghijklmnopqrstuvwxyz" : Str)))) [1] (start0 2 [.str z]) =
          some ((z.cps.toList.map fun c => PyData.str ⟨#[c]⟩).map fun d => .bool (match d with | .str w => w.cps.toList.all fun c => decide (c ∈ abc) | _ => false)) := by
        refine lc_of hi (by rw [List.length_map, Array.length_toList]; exact hz) fun d hd => ?_
        obtain ⟨c, _, rfl⟩ := List.mem_map.mp hd
        refine ⟨_, rfl, ?_⟩
        show some (PyData.bool (decide (c ∈ abc))) = some (PyData.bool ([c].all fun c => decide (c ∈ abc)))
        simp
      rw [call_of (cons_of (list_of hlc) nil_of)]
      rw [dAll_map]
      rw [List.all_map, Bool.true_and]
      congr 2
      simp [Function.comp_def]
  | _ => rfl
theorem rec_eq (d : D) (h : okLen d) : m_is_record [d] = some (.bool (isRec d)) := by
  cases d with
  | tuple ds =>
    have hz : ds.length ≤ cap := h
    have c1 : mChain dLe dLe (mC (.int 1)) (mCall dLen (mCons (mVar 0) mNil)) (mC (.int 8)) (start0 2 [.tuple ds]) = some (.bool (decide ((1 : Int) ≤ ds.length) && decide ((ds.length : Int) ≤ 8))) := by
      refine chain_of (x := .int 1) (y := .int ds.length) (z := .int 8) rfl ?_ rfl rfl rfl
      rw [call_of (cons_of (show mVar 0 (start0 2 [.tuple ds]) = some (.tuple ds) from rfl) nil_of), dLen_tup hz]
    have c2 : mOr (mNot (mTru (mUn (dIsi "tuple") (mVar 0)))) (mNot (mTest (mChain dLe dLe (mC (.int 1)) (mCall dLen (mCons (mVar 0) mNil)) (mC (.int 8))))) (start0 2 [.tuple ds]) = some (!(decide ((1 : Int) ≤ ds.length) && decide ((ds.length : Int) ≤ 8))) := by
      rw [or_f (show mNot (mTru (mUn (dIsi "tuple") (mVar 0))) (start0 2 [.tuple ds]) = some false from rfl), not_of (test_of c1)]
    show m_is_record [.tuple ds] = some (.bool ((decide ((1 : Int) ≤ ds.length) && decide ((ds.length : Int) ≤ 8)) && ds.all isWord))
    cases hq : (decide ((1 : Int) ≤ ds.length) && decide ((ds.length : Int) ≤ 8)) with
    | false =>
      rw [hq] at c2
      refine mDef_rt ?_
      unfold b_is_record
      rw [seq_rt (d := .bool false) (by rw [if_t c2]; rfl)]
      rfl
    | true =>
      rw [hq] at c2
      refine mDef_rt ?_
      unfold b_is_record
      rw [seq_nx (by rw [if_f c2]; rfl)]
      refine ret_of ?_
      have hlc : mLc (mIter (mVar 0)) (gSet 1) mYes (mCall (lim 1 m_is_word) (mCons (mVar 1) mNil)) [1] (start0 2 [.tuple ds]) = some (ds.map fun d => .bool (isWord d)) := by
        refine lc_of rfl hz fun d hd => ⟨_, rfl, ?_⟩
        rw [call_of (cons_of (show mVar 1 _ = some d from rfl) nil_of), lim1]
        exact word_eq d
      rw [call_of (cons_of (list_of hlc) nil_of), dAll_map, Bool.true_and]
  | _ => rfl
theorem recs_eq (d : D) (h : okLen d) (k : ∀ ds, d = .tuple ds → ∀ x ∈ ds, okLen x) : m_are_records [d] = some (.bool (areRecs d)) := by
  cases d with
  | tuple ds =>
    have hz : ds.length ≤ cap := h
    have hk := k ds rfl
    have c1 : mOp dGt (mCall dLen (mCons (mVar 0) mNil)) (mC (.int 30)) (start0 2 [.tuple ds]) = some (.bool (decide ((30 : Int) < ds.length))) := by
      have e1 : mCall dLen (mCons (mVar 0) mNil) (start0 2 [.tuple ds]) = some (.int ds.length) := by
        rw [call_of (cons_of (show mVar 0 (start0 2 [.tuple ds]) = some (.tuple ds) from rfl) nil_of), dLen_tup hz]
      rw [op_of e1 (show mC (.int 30) _ = some (.int 30) from rfl)]
      rfl
    have c2 : mOr (mNot (mTru (mUn (dIsi "tuple") (mVar 0)))) (mTest (mOp dGt (mCall dLen (mCons (mVar 0) mNil)) (mC (.int 30)))) (start0 2 [.tuple ds]) = some (decide ((30 : Int) < ds.length)) := by
      rw [or_f (show mNot (mTru (mUn (dIsi "tuple") (mVar 0))) (start0 2 [.tuple ds]) = some false from rfl), test_of c1]
    show m_are_records [.tuple ds] = some (.bool ((!decide ((30 : Int) < ds.length)) && ds.all isRec))
    cases hq : decide ((30 : Int) < ds.length) with
    | true =>
      rw [hq] at c2
      refine mDef_rt ?_
      unfold b_are_records
      rw [seq_rt (d := .bool false) (by rw [if_t c2]; rfl)]
      rfl
    | false =>
      rw [hq] at c2
      refine mDef_rt ?_
      unfold b_are_records
      rw [seq_nx (by rw [if_f c2]; rfl)]
      refine ret_of ?_
      have hlc : mLc (mIter (mVar 0)) (gSet 1) mYes (mCall (lim 1 m_is_record) (mCons (mVar 1) mNil)) [1] (start0 2 [.tuple ds]) = some (ds.map fun d => .bool (isRec d)) := by
        refine lc_of rfl hz fun d hd => ⟨_, rfl, ?_⟩
        rw [call_of (cons_of (show mVar 1 _ = some d from rfl) nil_of), lim1]
        exact rec_eq d (hk d hd)
      rw [call_of (cons_of (list_of hlc) nil_of), dAll_map]
      rfl
  | _ => rfl
end DD.R

set_option Elab.async false
set_option linter.all false
set_option maxRecDepth 100000
set_option maxHeartbeats 4000000
namespace DD
open PySem PySem.Spec PyProof.Rows L2

/-! ### head, *rest = a row -/
section
variable {prog : Program} {w : World} {A : Around} {E : Value → Shared → Prop} {s : Shared}
theorem star_items {t : Addr} {items : Array Value} {Q : List Value → Shared → Prop} (hl : IsTup s.heap t items) (hh : A.handled = none) (h1 : 1 ≤ items.size) (hz : items.size ≤ sizeLine)
    (h : ∀ (h' : Heap) (tk : Nat), (∀ b o, s.heap.get? b = some o → h'.get? b = some o) → Q [items.toList.headD .none, .ref h'.objs.size] { s with heap := h'.push { cls := .type "list", data := .seq (items.toList.drop 1).toArray }, toks := tk }) :
    wpAny (model prog w) A (unpackItems (.ref t) 2 (some 1)) Q E s := by
  have hne : t ≠ s.heap.objs.size := by
    obtain ⟨o, ho, _⟩ := hl
    exact Nat.ne_of_lt (Heap.lt_size ho)
  unfold unpackItems notIterableAtAll
  refine wpAny_bind (wpAny_bind (wpAny_specialOf hl.typeIs slot_tuple_iter.lookup (wpAny_pure ?_)))
  simp only [Option.isNone_some, Bool.false_eq_true, if_false]
  refine wpAny_bind (wpAny_holding (iter_tuple hl ?_))
  refine wpAny_bind (wpAny_holding (draw_tuple hne 1 0 _ _ ⟨_, Heap.get?_push_size _ rfl, rfl, rfl⟩ (hl.push _) (by omega) fun g1 st1 same1 => ?_))
  have tup1 : IsTup g1 t items := (hl.push _).extBut same1.extBut hne
  have it1 := st1
  rw [Nat.zero_add] at it1
  obtain ⟨oi, hoi, _⟩ := id it1
  obtain ⟨ot, hot, _⟩ := id tup1
  have hd : List.take 1 (List.drop 0 items.toList) = [items.toList.headD .none] := by
    cases e : items.toList with
    | nil =>
      have hz0 : items.size = 0 := by simpa using congrArg List.length e
      omega
    | cons x r => rfl
  rw [hd]
  rw [if_neg (by show ¬ (1 < 1); omega)]
  refine wpAny_bind (wpAny_holding (PySem.W.kun_collect (s := { s with heap := g1 }) (T := "tuple_iterator") (.inr (.inr (.inr rfl))) (Walks.tuple (A := A.in1) hh s.heap.objs.size t hne items) (fun j u st => st.1.typeIs) (k := 1) h1 ⟨it1, tup1⟩ (Heap.lt_size hoi) (Heap.lt_size hot) (fun g2 tk keep2 => ?_) hz))
  have keep : ∀ b o, s.heap.get? b = some o → g2.get? b = some o := fun b o e => by
    have nb : b ≠ s.heap.objs.size := Nat.ne_of_lt (Heap.lt_size e)
    exact keep2 b o nb (same1.extBut b o nb (Heap.get?_push_of_some _ e))
  have len : (items.toList.drop 1).length = items.size - 1 := by rw [List.length_drop, Array.length_toList]
  show wpAny _ _ (if (items.toList.drop 1).length < 2 - 1 - 1 then _ else _) _ _ _
  rw [if_neg (by omega)]
  show wpAny _ _ (newList ((items.toList.drop 1).take ((items.toList.drop 1).length - (2 - 1 - 1))) >>= fun d => pure ([items.toList.headD .none] ++ [d] ++ (items.toList.drop 1).drop ((items.toList.drop 1).length - (2 - 1 - 1)))) _ _ _
  have e1 : (items.toList.drop 1).take ((items.toList.drop 1).length - (2 - 1 - 1)) = items.toList.drop 1 := List.take_of_length_le (by omega)
  have e2 : (items.toList.drop 1).drop ((items.toList.drop 1).length - (2 - 1 - 1)) = [] := List.drop_of_length_le (by omega)
  rw [e1, e2]
  refine wpAny_bind (wpAny_newList ?_ (by rw [len]; omega))
  exact wpAny_pure (h g2 tk keep)
end
/-- head, *rest = a tuple -/
def gHdRest (K : PySem.W.Frag) (g1 g2 : TG) : TG := fun v σ H Q => ∃ a x xs, v = .ref a ∧ SqT K H a (x :: xs) ∧ ∀ p, H p = none → g1 x σ (upd H p (.lst xs)) fun σ' H' => g2 (.ref p) σ' H' Q
theorem pg_headRest {X : Cx} {e1 e2 : Expr} {g1 g2 : TG} {k : Nat} {p1 pos : Pos} (hc : X.calm = true) (h1 : PG X e1 g1) (h2 : PG X e2 g2)
    (ha : assignEach [e1, .Starred e2 p1] X.env = [(false, assign e1 X.env), (true, assign e2 X.env)] := by rfl) : PG X (.Tuple [e1, .Starred e2 p1] k pos) (gHdRest X.K g1 g2) := by
  refine ⟨fun pins s σ H v u Q I r hw => ?_⟩
  obtain ⟨a, x, xs, e, hq, hw⟩ := hw
  subst e
  cases r
  obtain ⟨its, rv, ht, hz⟩ := I.tuple hq
  rw [PyProof.Rows.assign_Tuple]
  refine wpAny_bind (wpAny_standAt ?_)
  unfold unpack
  rw [ha]
  have hl := rv.length
  refine wpAny_bind (wpAny_holding (star_items ht (I.ok.hd hc) (by rw [List.size_toArray, ← hl]; simp) (by rw [List.size_toArray, ← hl]; exact hz) fun h' tk kp => ?_))
  cases rv with
  | cons r1 r2 =>
    rename_i u1 us
    have I1 : Inv X pins σ H { s with heap := h', toks := tk } := I.kept kp
    have nf : H h'.objs.size = none := I1.hok.fresh (Nat.le_refl _)
    have I2 : Inv X pins σ (upd H h'.objs.size (.lst xs)) { s with heap := h'.push { cls := .type "list", data := .seq (us : List Value).toArray }, toks := tk } :=
      I1.laid (a := h'.objs.size) (o := .lst xs) (h' := h'.push { cls := .type "list", data := .seq (us : List Value).toArray }) (t' := tk) (fun b o e => Heap.get?_push_of_some _ e) (Nat.le_refl _) ⟨Nat.le_trans (Nat.le_succ _) hz, us, 0, r2, Heap.get?_push_size _ rfl⟩
    show wpAny _ _ (assignInOrder [assign e1 X.env, assign e2 X.env] [u1, .ref h'.objs.size]) _ _ _
    refine assignInOrder_cons (thn (h1.run pins _ σ _ x u1 _ I2 r1 (hw _ nf)) fun _ s3 ⟨σ3, H3, I3, q3⟩ => ?_)
    refine assignInOrder_cons (thn (h2.run pins s3 σ3 H3 (.ref h'.objs.size) _ _ I3 rfl q3) fun _ s4 q4 => ?_)
    exact assignInOrder_nil q4
def gHeadRest (m1 m2 : D → En → Option En) (d : D) (ρ : En) : Option En := match d with
  | .tuple (x :: xs) => (m1 x ρ).bind fun ρ1 => m2 (.list xs) ρ1
  | _ => none
section
variable {K : PySem.W.Frag}
theorem tg_headRest {vs : List Nat} {g1 g2 : TG} {m1 m2 : D → En → Option En} (h1 : TGm K vs g1 m1) (h2 : TGm K vs g2 m2) : TGm K vs (gHdRest K g1 g2) (gHeadRest m1 m2) := by
  refine ⟨fun {H0 T0 σ ρ ρ2 H T v d} G g h Q q => ?_⟩
  unfold gHeadRest at h
  split at h
  · rename_i y ys
    obtain ⟨ρ1, e1, h⟩ := bind_some h
    obtain ⟨a, xs, rfl, hs, ga⟩ := dp_tup g
    cases ga with
    | cons gx gr =>
      rename_i x xs
      refine ⟨a, _, _, rfl, sqt_ov G.dis hs, fun p np => ?_⟩
      obtain ⟨nT, nH⟩ := ov_free np
      rw [upd_ov nT]
      have sn : Same H (upd H p (.lst xs)) := same_new nH
      refine h1.run (G.mono sn (dis_upd G.dis nT)) (dp_mono sn gx) e1 _ fun σ3 H3 G3 s3 w3 => ?_
      refine h2.run G3 (dp_mono s3 (.lst (SqL.of upd_same) (dpa_mono sn gr))) h _ fun σ4 H4 G4 s4 w4 => ?_
      exact q σ4 H4 G4 ((sn.trans s3).trans s4) (w4.trans w3)
  · cases h
theorem tg_lst {vs : List Nat} {n : Nat} {gs : TGs} {mr : List D → En → Option En} (h : TGsm K vs gs mr) : TGm K vs (gLst K n gs) (gLstM n mr) := by
  refine ⟨fun {H0 T0 σ ρ ρ2 H T v d} G g e Q q => ?_⟩
  unfold gLstM at e
  split at e
  · split at e
    · rename_i hn
      obtain ⟨p, xs, rfl, hs, ga⟩ := dp_lst g
      exact ⟨p, xs, rfl, sql_ov G.dis hs, by rw [dpa_len ga]; exact hn, h.run G ga e Q q⟩
    · cases e
  · cases e
end
end DD

set_option Elab.async false
set_option linter.all false
set_option maxRecDepth 100000
set_option maxHeartbeats 4000000
namespace DD
open PySem PySem.Spec PyProof.Rows L2

/-! ### zip of two, each a list or a tuple (b: it is a tuple) -/
def SqB (b : Bool) (K : PySem.W.Frag) (H : Hp) (a : Addr) (xs : List V) : Prop := if b = true then SqT K H a xs else SqL K H a xs
def HpB (b : Bool) (h : Heap) (a : Addr) (its : Array Value) : Prop := if b = true then h.IsTuple a its else h.IsList a its
def AtB (b : Bool) (h : Heap) (it a : Addr) (i : Nat) : Prop := if b = true then h.IsTupleIter it a i else h.IsListIter it a i
theorem HpB.at {b : Bool} {h h' : Heap} {a : Addr} {its : Array Value} (x : HpB b h a its) (k : ∀ o, h.get? a = some o → h'.get? a = some o) : HpB b h' a its := by
  cases b
  · exact Heap.IsList.at x k
  · exact Heap.IsTuple.at x k
theorem AtB.at {b : Bool} {h h' : Heap} {it a : Addr} {i : Nat} (x : AtB b h it a i) (k : ∀ o, h.get? it = some o → h'.get? it = some o) : AtB b h' it a i := by
  cases b
  · exact Heap.IsListIter.at x k
  · exact Heap.IsTupleIter.at x k
theorem SqB.get {b : Bool} {X : Cx} {pins : List (Addr × Obj)} {σ : L2.St} {H : Hp} {s : Shared} {a : Addr} {xs : List V} (I : Inv X pins σ H s) (h : SqB b X.K H a xs) : ∃ its : List Value, Vals xs its ∧ HpB b s.heap a its.toArray := by
  cases b
  · obtain ⟨its, rv, p, _⟩ := I.list h
    exact ⟨its, rv, p.isList⟩
  · obtain ⟨its, rv, p, _⟩ := I.tuple h
    exact ⟨its, rv, p⟩
theorem SqB.inj {b : Bool} {X : Cx} {pins : List (Addr × Obj)} {σ : L2.St} {H : Hp} {s : Shared} {a : Addr} {xs ys : List V} (I : Inv X pins σ H s) (h : SqB b X.K H a xs) (h' : SqB b X.K H a ys) : xs = ys := by
  cases b
  · exact I.list_inj h h'
  · exact I.tuple_inj h h'
theorem HpB.lt {b : Bool} {h : Heap} {a : Addr} {its : Array Value} (x : HpB b h a its) : a < h.objs.size := by
  cases b
  · obtain ⟨o, ho, _⟩ : h.IsList a its := x
    exact Heap.lt_size ho
  · obtain ⟨o, ho, _⟩ : h.IsTuple a its := x
    exact Heap.lt_size ho
theorem drawsB {prog : Program} {w : World} {A : Around} (b : Bool) (hh : A.handled = none) (it a : Addr) (hne : a ≠ it) (its : Array Value) :
    Draws prog w A it [it, a] its.size (fun i v => its[i]? = some v) (fun i h => AtB b h it a i ∧ HpB b h a its) := by
  cases b
  · exact Draws.list hh it a hne its
  · exact Draws.tuple hh it a hne its
def beB (b : Bool) (a : Addr) : Obj := { cls := .type (if b = true then "tuple_iterator" else "list_iterator"), data := .fields #[.ref a, .int 0 0] }
theorem beginsB (b : Bool) (a : Addr) (its : Array Value) : Begins (.ref a) (beB b a) fun h => HpB b h a its := by
  cases b
  · exact begins_list a its
  · exact begins_tuple a its
theorem beB_at {b : Bool} {h : Heap} {it a : Addr} (e : h.get? it = some (beB b a)) : AtB b h it a 0 := by
  cases b
  · exact ⟨_, e, rfl, rfl⟩
  · exact ⟨_, e, rfl, rfl⟩
theorem atB_obj {b : Bool} {h : Heap} {it a : Addr} {i : Nat} (x : AtB b h it a i) : ∃ o, h.get? it = some o ∧ ∀ v, o.data ≠ .cell v := by
  cases b
  · obtain ⟨o, e, _, d⟩ : h.IsListIter it a i := x
    exact ⟨o, e, fun v q => by rw [d] at q; cases q⟩
  · obtain ⟨o, e, _, d⟩ : h.IsTupleIter it a i := x
    exact ⟨o, e, fun v q => by rw [d] at q; cases q⟩
theorem apartB {b : Bool} {h : Heap} {a it : Addr} {its : Array Value} {i : Nat} (p : HpB b h a its) (q : AtB b h it a i) : a ≠ it := fun e => by
  subst e
  cases b
  · obtain ⟨o, ho, hc1, _⟩ : h.IsList a its := p
    obtain ⟨o', ho', hc2, _⟩ : h.IsListIter a a i := q
    have e := Option.some.inj (ho.symm.trans ho')
    subst e
    exact absurd (hc1.symm.trans hc2) (by decide +kernel)
  · obtain ⟨o, ho, hc1, _⟩ : h.IsTuple a its := p
    obtain ⟨o', ho', hc2, _⟩ : h.IsTupleIter a a i := q
    have e := Option.some.inj (ho.symm.trans ho')
    subst e
    exact absurd (hc1.symm.trans hc2) (by decide +kernel)
def Izz (K : PySem.W.Frag) (b1 b2 : Bool) (a b : Addr) : It :=
  ⟨fun i H => ∃ (xs ys : List V) (x y : V), SqB b1 K H a xs ∧ SqB b2 K H b ys ∧ xs[i]? = some x ∧ ys[i]? = some y,
    fun i H v H' => ∃ T x y, v = .ref T ∧ H T = none ∧ H' = upd H T (.tup [x, y]) ∧ (∀ xs, SqB b1 K H a xs → xs[i]? = some x) ∧ ∀ ys, SqB b2 K H b ys → ys[i]? = some y,
    fun i H => ∃ xs ys : List V, SqB b1 K H a xs ∧ SqB b2 K H b ys ∧ i = min xs.length ys.length⟩
theorem turn_zz {P : Program} {w : World} {K : PySem.W.Frag} {elts : List Expr} {kk : Nat} {tpos : Pos} {b1 b2 : Bool} {a b z TI TO i1 i2 : Addr} (D : ZipSep2 z TI TO i1 i2 [i1, a] [i2, b]) :
    Turn P w K (.Tuple elts kk tpos) (Izz K b1 b2 a b) [z, TI, TO, i1, i2] z (fun i h => IsZip h z TI TO .none ∧ IsTupOf2 h TI (.ref i1) (.ref i2) ∧ (∃ x y, IsTupOf2 h TO x y) ∧ AtB b1 h i1 a i ∧ AtB b2 h i2 b i) where
  mem := by simp
  obj := fun i h st c hc => by
    obtain ⟨hz, hTI, ⟨x, y, hTO⟩, h1, h2⟩ := st
    simp only [List.mem_cons, List.not_mem_nil, or_false] at hc
    rcases hc with rfl | rfl | rfl | rfl | rfl
    · exact ⟨_, hz, fun v q => nomatch q⟩
    · exact ⟨_, hTI, fun v q => nomatch q⟩
    · exact ⟨_, hTO, fun v q => nomatch q⟩
    · exact atB_obj h1
    · exact atB_obj h2
  keep := fun i h h' st k => by
    obtain ⟨hz, hTI, ⟨x, y, hTO⟩, h1, h2⟩ := st
    exact ⟨k z (by simp) _ hz, k TI (by simp) _ hTI, ⟨x, y, k TO (by simp) _ hTO⟩, h1.at fun o q => k i1 (by simp) o q, h2.at fun o q => k i2 (by simp) o q⟩
  item := by
    intro X hP hw hK hc i pins s σ H E I hf st hg
    subst hP hw hK
    obtain ⟨hz, hTI, ⟨x0, y0, hTO⟩, h1, h2⟩ := st
    obtain ⟨xs, ys, x, y, hqx, hqy, hx, hy⟩ := hg
    obtain ⟨its, rv, p⟩ := hqx.get I
    obtain ⟨its2, rv2, p2⟩ := hqy.get I
    obtain ⟨u, hu, ru⟩ := rv.get hx
    obtain ⟨u2, hu2, ru2⟩ := rv2.get hy
    have hzl : z < s.heap.objs.size := Heap.lt_size hz
    have na : a ≠ i1 := apartB p h1
    have nb : b ≠ i2 := apartB p2 h2
    have hh : X.A.in1.handled = none := I.ok.hd hc
    have j1 : i < its.toArray.size := by obtain ⟨q, _⟩ := List.getElem?_eq_some_iff.mp hu; simpa using q
    have j2 : i < its2.toArray.size := by obtain ⟨q, _⟩ := List.getElem?_eq_some_iff.mp hu2; simpa using q
    refine wpAny_pyNext_zipD2_item D (drawsB b1 hh i1 a na its.toArray) (drawsB b2 hh i2 b nb its2.toArray) hz hTI hTO ⟨h1, p⟩ ⟨h2, p2⟩ j1 j2 fun x1 x2 h' tk e1 e2 z' TO' h1' h2' hT hsz hk => ?_
    have e3 : x1 = u := by
      have : its.toArray[i]? = some u := by simpa using hu
      rw [this] at e1; exact (Option.some.inj e1).symm
    have e4 : x2 = u2 := by
      have : its2.toArray[i]? = some u2 := by simpa using hu2
      rw [this] at e2; exact (Option.some.inj e2).symm
    subst e3 e4
    refine ⟨_, rfl, wpAny_letOwnedTupleGo_zip (s := { s with heap := h', toks := tk }) z' fun h'' z'' sb => ?_⟩
    have hT2 : h''.get? s.heap.objs.size = some { cls := .type "tuple", data := .seq #[x1, x2] } := (sb.2 _ (Nat.ne_of_gt hzl)).trans hT
    have new : ObjOk X.prog X.w (upd H s.heap.objs.size (.tup [x, y])) h'' s.heap.objs.size (.tup [x, y]) :=
      ⟨by show 2 ≤ sizeLine; decide, [x1, x2], .cons ru (.cons ru2 .nil), ⟨_, hT2, rfl, _, rfl⟩⟩
    have I1 : Inv X pins σ (upd H s.heap.objs.size (.tup [x, y])) { s with heap := h'', toks := tk } :=
      I.turnedNew (t' := tk) (ch := [z, TI, TO, i1, i2]) (fun c o hb q => (sb.2 c (fun q' => hb (by simp [q']))).trans (hk c o (fun q' => hb (by simp [q'])) (fun q' => hb (by simp [q'])) (fun q' => hb (by simp [q'])) (fun q' => hb (by simp [q'])) q)) hf (Nat.le_refl _) new
    refine ⟨.ref s.heap.objs.size, _, I1, rfl, ⟨_, x, y, rfl, I.hok.fresh (Nat.le_refl _), rfl, fun l hl => by rw [hl.inj I hqx]; exact hx, fun l hl => by rw [hl.inj I hqy]; exact hy⟩, ⟨z'', ?_, ⟨x1, x2, ?_⟩, ?_, ?_⟩, fun c hcm => ?_⟩
    · exact (sb.2 _ D.TIz).trans (hk _ _ D.TIz D.TITO D.TIi1 D.TIi2 hTI)
    · exact (sb.2 _ D.TOz).trans TO'
    · exact h1'.1.at fun o q => (sb.2 _ D.zi1.symm).trans q
    · exact h2'.1.at fun o q => (sb.2 _ D.zi2.symm).trans q
    · have hlt : c < s.heap.objs.size := by
        obtain ⟨o1, w1, _⟩ := atB_obj h1
        obtain ⟨o2, w2, _⟩ := atB_obj h2
        simp only [List.mem_cons, List.not_mem_nil, or_false] at hcm
        rcases hcm with q | q | q | q | q
        · rw [q]; exact hzl
        · rw [q]; exact Heap.lt_size hTI
        · rw [q]; exact Heap.lt_size hTO
        · rw [q]; exact Heap.lt_size w1
        · rw [q]; exact Heap.lt_size w2
      rw [upd_ne (Nat.ne_of_lt hlt)]
      exact (hf c hcm).1
  done := by
    intro X hP hw hK hc i pins s σ H E I hf st hg
    subst hP hw hK
    obtain ⟨hz, hTI, ⟨x0, y0, hTO⟩, h1, h2⟩ := st
    obtain ⟨xs, ys, hqx, hqy, hend⟩ := hg
    obtain ⟨its, rv, p⟩ := hqx.get I
    obtain ⟨its2, rv2, p2⟩ := hqy.get I
    have l1 := rv.length
    have l2 := rv2.length
    have na : a ≠ i1 := apartB p h1
    have nb : b ≠ i2 := apartB p2 h2
    have hh : X.A.in1.handled = none := I.ok.hd hc
    refine wpAny_pyNext_zipD2_end D (drawsB b1 hh i1 a na its.toArray) (drawsB b2 hh i2 b nb its2.toArray) hz hTI hTO ⟨h1, p⟩ ⟨h2, p2⟩ (by simp; omega) (by simp; omega) (by simp; omega)
      fun h' tk hk => ⟨rfl, I.turnedL (t' := tk) (ch := [z, TI, TO, i1, i2]) (fun c o hb q => hk c o (fun q' => hb (by simp [q'])) (fun q' => hb (by simp [q'])) (fun q' => hb (by simp [q'])) (fun q' => hb (by simp [q'])) q) hf⟩
  self := fun A i s Q E st h => wpAny_pyIter_zip st.1 h
def iZz (K : PySem.W.Frag) (ta : TA) : TI := fun σ H R => ta σ H fun vs H1 => ∃ a b xs ys b1 b2, vs = [.ref a, .ref b] ∧ SqB b1 K H1 a xs ∧ SqB b2 K H1 b ys ∧ R (Izz K b1 b2 a b) H1
theorem pi_zipX {X : Cx} {e e2 : Expr} {ta : TA} {p pos tpos : Pos} {elts : List Expr} {kk : Nat} (hg : Gl X "zip") (hm : X.mg "zip" = none) (ha : PA X [e, e2] ta)
    (hs : starEach [e, e2] X.env = (false, eval e X.env) :: starEach [e2] X.env := by rfl) (hpl : (backTo pos (starEach [e2] X.env)).any (·.1) = false := by rfl) :
    PI X (.Tuple elts kk tpos) (.Call (.Name "zip" p) [e, e2] [] pos) (iZz X.K ta) := by
  refine ⟨fun pins s σ H R I h => ?_⟩
  refine Call_ (ld_blt I hg hm PyProof.Rows.boot_zip (PyProof.Rows.callWith_type1 (thn (ha.run pos pins s σ H _ I h) fun us s1 ⟨vs, H1, I1, r1, q1⟩ => ?_) hs hpl))
  obtain ⟨a, b, xs, ys, b1, b2, ex, hqx, hqy, q⟩ := q1
  subst ex
  cases r1 with
  | cons r rr =>
    cases rr with
    | cons r' rr =>
      cases rr
      cases r
      cases r'
      obtain ⟨its, rv, p1⟩ := hqx.get I1
      obtain ⟨its2, rv2, p2⟩ := hqy.get I1
      refine zip_begins2 (beginsB b1 a its.toArray) (beginsB b2 b its2.toArray) p1 p2 fun h' hz hTI hTO g1 g2 hsz hk => wpAny_pyIter_zip hz ?_
      have I2 : Inv X pins σ H1 { s1 with heap := h' } := I1.kept (t' := s1.toks) hk
      have D : ZipSep2 (s1.heap.objs.size + 4) (s1.heap.objs.size + 2) (s1.heap.objs.size + 3) s1.heap.objs.size (s1.heap.objs.size + 1) [s1.heap.objs.size, a] [s1.heap.objs.size + 1, b] :=
        zip_sep2 (fun c hc => by rw [List.mem_singleton.mp hc]; exact p1.lt) (fun c hc => by rw [List.mem_singleton.mp hc]; exact p2.lt)
      refine ⟨s1.heap.objs.size + 4, [s1.heap.objs.size + 4, s1.heap.objs.size + 2, s1.heap.objs.size + 3, s1.heap.objs.size, s1.heap.objs.size + 1], _, _, H1, rfl, I2, turn_zz D, ⟨hz, hTI, ⟨_, _, hTO⟩, beB_at g1, beB_at g2⟩, fun c hcm => ?_, q⟩
      have hle : s1.heap.objs.size ≤ c := by
        simp only [List.mem_cons, List.not_mem_nil, or_false] at hcm
        rcases hcm with e | e | e | e | e
        · rw [e]; exact Nat.le_add_right _ _
        · rw [e]; exact Nat.le_add_right _ _
        · rw [e]; exact Nat.le_add_right _ _
        · exact Nat.le_of_eq e.symm
        · rw [e]; exact Nat.le_add_right _ _
      exact I1.fpOk hle (I1.hok.fresh hle)

def pairs : List D → List D → List D
  | x :: xs, y :: ys => .tuple [x, y] :: pairs xs ys
  | _, _ => []
def seqD : D → Option (Bool × List D)
  | .list xs => some (false, xs)
  | .tuple xs => some (true, xs)
  | _ => none
def mZip (m : En → Option (List D)) : En → Option (List D) := fun ρ => (m ρ).bind fun ds => match ds with
  | [a, b] => (seqD a).bind fun x => (seqD b).map fun y => pairs x.2 y.2
  | _ => none
theorem pairs_len : ∀ xs ys : List D, (pairs xs ys).length = min xs.length ys.length
  | [], _ => by simp [pairs]
  | _ :: _, [] => by simp [pairs]
  | x :: xs, y :: ys => by simp [pairs, pairs_len xs ys]
theorem pairs_get : ∀ {xs ys : List D} {i : Nat} {d : D}, (pairs xs ys)[i]? = some d → ∃ x y, xs[i]? = some x ∧ ys[i]? = some y ∧ d = .tuple [x, y]
  | [], _, _, _, h => by simp [pairs] at h
  | _ :: _, [], _, _, h => by simp [pairs] at h
  | x :: xs, y :: ys, 0, d, h => by simp [pairs] at h; exact ⟨x, y, rfl, rfl, h.symm⟩
  | x :: xs, y :: ys, i + 1, d, h => by simp [pairs] at h; simpa using pairs_get h
theorem seqD_sq {K : PySem.W.Frag} {H : Hp} {v : V} {d : D} {b : Bool} {ds : List D} (h : Dp K H v d) (e : seqD d = some (b, ds)) : ∃ a xs, v = .ref a ∧ SqB b K H a xs ∧ DpAll K H xs ds := by
  cases d <;> simp [seqD] at e
  · obtain ⟨rfl, rfl⟩ := e
    obtain ⟨p, xs, rfl, hs, g⟩ := dp_lst h
    exact ⟨p, xs, rfl, hs, g⟩
  · obtain ⟨rfl, rfl⟩ := e
    obtain ⟨p, xs, rfl, hs, g⟩ := dp_tup h
    exact ⟨p, xs, rfl, hs, g⟩
theorem sqb_same {b : Bool} {K : PySem.W.Frag} {H H' : Hp} {a : Addr} {xs : List V} (e : Same H H') (h : SqB b K H a xs) : SqB b K H' a xs := by
  cases b
  · exact e.seq h
  · exact Same.sqt e h
theorem it_zipX {K : PySem.W.Frag} {ta : TA} {m : En → Option (List D)} (ha : TAm K ta m) : IT K (iZz K ta) (mZip m) := by
  refine ⟨fun {H0 T0 σ ρ H T ds} G h R q => ?_⟩
  obtain ⟨as, hx, h⟩ := bind_some h
  refine ha.run G hx _ fun vs H1 s1 d1 p1 => ?_
  split at h
  · rename_i da db
    obtain ⟨⟨b1, xs⟩, e1, h⟩ := bind_some h
    obtain ⟨⟨b2, ys⟩, e2, h⟩ := map_some h
    subst h
    obtain ⟨u, v, rfl, gu, gv⟩ := dpa_two p1
    obtain ⟨a, vx, rfl, hsx, gx⟩ := seqD_sq gu e1
    obtain ⟨b, vy, rfl, hsy, gy⟩ := seqD_sq gv e2
    have lx := dpa_len gx
    have ly := dpa_len gy
    refine ⟨a, b, vx, vy, b1, b2, rfl, sqb_same (same_ov d1) hsx, sqb_same (same_ov d1) hsy, q _ H1 s1 d1 ⟨fun {H T} i sm dis hi => ?_, fun {H T} sm dis => ?_, fun {H T} i {x Hc d} sm dis hd y => ?_⟩⟩
    · rw [pairs_len] at hi
      have i1 : i < vx.length := by rw [lx]; simp at hi; omega
      have i2 : i < vy.length := by rw [ly]; simp at hi; omega
      exact ⟨vx, vy, vx[i], vy[i], sqb_same (same_ov dis) (sqb_same sm hsx), sqb_same (same_ov dis) (sqb_same sm hsy), by simp [i1], by simp [i2]⟩
    · exact ⟨vx, vy, sqb_same (same_ov dis) (sqb_same sm hsx), sqb_same (same_ov dis) (sqb_same sm hsy), by rw [pairs_len, lx, ly]⟩
    · obtain ⟨p, xx, yy, rfl, np, rfl, ex, ey⟩ := y
      obtain ⟨dx, dy, hdx, hdy, rfl⟩ := pairs_get hd
      obtain ⟨wx, hwx, gwx⟩ := dpa_get gx hdx
      obtain ⟨wy, hwy, gwy⟩ := dpa_get gy hdy
      have := ex vx (sqb_same (same_ov dis) (sqb_same sm hsx))
      rw [hwx] at this
      cases this
      have := ey vy (sqb_same (same_ov dis) (sqb_same sm hsy))
      rw [hwy] at this
      cases this
      obtain ⟨nT, nH⟩ := ov_free np
      have sn : Same H (upd H p (.tup [xx, yy])) := same_new nH
      exact ⟨_, upd_ov nT, sn, dis_upd dis nT, .tup (.inl (.of upd_same)) (.cons (dp_mono sn (dp_mono sm gwx)) (.cons (dp_mono sn (dp_mono sm gwy)) .nil))⟩
  · cases h
end DD

set_option Elab.async false
set_option linter.all false
set_option maxRecDepth 100000
set_option maxHeartbeats 4000000
namespace DD
open PySem PySem.Spec PyProof.Rows L2

/-! ### set(a list of ints), with what its order asks -/
section
variable {P : Program} {w : World} {A : Around} {E : Value → Shared → Prop} {s : Shared}
abbrev set0 (w : World) : Obj := { cls := .type "set", dict := none, data := .set #[] 0 (.fresh 0 0 (!w.params.followText "set-order")) }
/-- the step that fills the new set at N from the list at l -/
theorem fill_list {h0 : Heap} {l : Addr} {items : Array Value} (ns : List Int) (hh : A.handled = none) (hl : (h0.push (set0 w)).IsList l items) (hlt : l < h0.objs.size) (hi : IntsAre items.toList ns) (hb : ns.length + 1 < scanBound) {R : Result → Shared → Prop} {t : Shared} (ht : t.heap = h0.push (set0 w))
    (h : ∀ (h' : Heap) (tk c : Nat), SetR w h' h0.objs.size (fun j => decide (j ∈ ns)) c → c ≤ ns.length → (∀ b o, h0.get? b = some o → h'.get? b = some o) → R (.ok (.ret .none)) { t with heap := h', toks := tk }) :
    codeAny (model P w) A.in1.in1 (.builtin "set.update.loop" ⟨[.ref h0.objs.size, .ref (h0.push (set0 w)).objs.size], []⟩) R { t with heap := (h0.push (set0 w)).push { cls := .type "list_iterator", data := .fields #[.ref l, .int 0 0] } } := by
  have size1 : (h0.push (set0 w)).objs.size = h0.objs.size + 1 := Heap.size_push ..
  have len : items.size = ns.length := by
    have q := IntsAre.length hi
    rwa [Array.length_toList] at q
  have ne1 : l ≠ (h0.push (set0 w)).objs.size := by rw [size1]; exact Nat.ne_of_lt (Nat.lt_succ_of_lt hlt)
  have out : h0.objs.size ∉ [(h0.push (set0 w)).objs.size, l] := by
    rw [size1]
    intro m
    simp only [List.mem_cons, List.not_mem_nil, or_false] at m
    rcases m with m | m
    · exact absurd m (Nat.ne_of_lt (Nat.lt_succ_self _))
    · exact absurd m (Nat.ne_of_gt hlt)
  have at0 : ((h0.push (set0 w)).push { cls := .type "list_iterator", data := .fields #[.ref l, .int 0 0] }).get? h0.objs.size = some (set0 w) := Heap.get?_push_of_some _ (Heap.get?_push_size _ rfl)
  refine set_update_ints (P := P) (w := w) ((Walks.list (A := A.in1.in1.in1) (by simpa using hh) _ l ne1 items).toS) h0.objs.size out ns len hb (fun i v e => ?_) (items.size - 0) 0 _ (by omega) (Nat.zero_le _)
    ⟨⟨_, Heap.get?_push_size _ rfl, rfl, rfl⟩, hl.push _⟩ ⟨0, Nat.le_refl 0, setR_new_at at0⟩ fun s' c hm hc hS => ?_
  · have hil : i < ns.length := by rw [← len]; exact (Array.getElem?_eq_some_iff.mp e).1
    obtain ⟨tk, e2⟩ := IntsAre.int_at hi i v (by rw [Array.getElem?_toList]; exact e)
    refine ⟨ns[i], tk, List.getElem?_eq_getElem hil, ?_⟩
    rw [e2, List.getD_eq_getElem?_getD, List.getElem?_eq_getElem hil]
    rfl
  · obtain ⟨h', g', d', tk', os'⟩ := s'
    obtain rfl : g' = t.gens := hm.gens
    obtain rfl : d' = t.drawn := hm.drawn
    obtain rfl : os' = t.os := hm.os
    refine h h' tk' c hS (by rw [← len]; exact hc) fun b o e => hm.heap b o ?_ (Heap.get?_push_of_some _ (Heap.get?_push_of_some _ e))
    have lt := Heap.lt_size e
    rw [size1]
    intro m
    simp only [List.mem_cons, List.not_mem_nil, or_false] at m
    rcases m with m | m
    · exact absurd m (Nat.ne_of_lt lt)
    · exact absurd m (Nat.ne_of_lt (Nat.lt_succ_of_lt lt))
theorem call_setI {l : Addr} {items : Array Value} (ns : List Int) {Q : Value → Shared → Prop} (hh : A.handled = none) (hl : s.heap.IsList l items) (hit : IntsAre items.toList ns) (hb : ns.length + 1 < scanBound)
    (h : ∀ (h' : Heap) (tk c : Nat), SetR w h' s.heap.objs.size (fun j => decide (j ∈ ns)) c → c ≤ ns.length → (∀ b o, s.heap.get? b = some o → h'.get? b = some o) → Q (.ref s.heap.objs.size) { s with heap := h', toks := tk }) :
    wpAny (model P w) A (call (.type "set") [.ref l]) Q E s := by
  obtain ⟨c0, tl, hmro⟩ := F.called_set.mro
  have h0 := F.called_set.made
  have h1 := F.called_set.notType
  have h2 := F.called_set.canCreate
  have h3 := F.called_set.sub
  have h4 := F.typeCall_set_1 (.ref l)
  refine wpAny_call (codeAny_of_tree (show wpAny _ _ (callAny (.type "set") _) _ _ _ from wpAny_pure ⟨Code.quiet_builtin _ (by decide +kernel), codeAny_builtin F.entry_type_call ?_⟩))
  rw [Around.under_plain (weight_type_call_type "set" [.ref l] []) rfl]
  repeat (any_goals (first | assumption | wp_step))
  refine codeAny_mono (code_set_led1 (.ref l) (E := E) (Q₁ := fun obj s₁ => obj = .ref s.heap.objs.size ∧ s₁ = { s with heap := s.heap.push (set0 w) }) ⟨rfl, rfl⟩) fun r s₁ hr => ?_
  cases r with
  | error e => exact hr
  | ok fl =>
    cases fl with
    | ret obj =>
      obtain ⟨rfl, rfl⟩ := hr
      have at0 : (s.heap.push (set0 w)).get? s.heap.objs.size = some (set0 w) := Heap.get?_push_size _ rfl
      have ty : Shared.TypeIs { s with heap := s.heap.push (set0 w) } (.ref s.heap.objs.size) "set" := ⟨_, at0, rfl⟩
      have h5 := F.called_set.init.lookup
      have h6 := F.called_set.init.bind (.ref s.heap.objs.size)
      repeat (any_goals (first | assumption | wp_step))
      refine codeAny_mono (codeAny_call_builtin (R := wants (fun r s₂ => r = .none ∧ ∃ h' tk c, s₂ = { s with heap := h', toks := tk } ∧ SetR w h' s.heap.objs.size (fun j => decide (j ∈ ns)) c ∧ c ≤ ns.length ∧
          (∀ b o, s.heap.get? b = some o → h'.get? b = some o)) E) F.called_set.init.plain F.entry_set_init (check_set_init_1 ty ?_)) fun r₂ s₂ hr₂ => ?_
      · obtain ⟨⟨ocls, odict, odata, oslots⟩, hol, hcl, nl, hdl⟩ := hl
        simp only at hcl hdl
        subst hcl hdl
        have hol' : (s.heap.push (set0 w)).get? l = some { cls := .type "list", dict := odict, data := .seq items nl, slots := oslots } := Heap.get?_push_of_some _ hol
        have h7 := F.sub_list_set
        have h8 := F.sub_list_frozenset
        have h9 : (Value.type "list" == Value.type "dict") = false := by decide
        have hL : (s.heap.push (set0 w)).IsList l items := ⟨_, hol', rfl, nl, rfl⟩
        unfold Builtin.«set.__init__» noKeywords Builtin.Frozenset.updateFrom
        generalize hPI : pyIter = PI
        wp_walk
        subst hPI
        refine wpAny_pyIter_list hL (wpAny_bind (wpAny_runValue ?_))
        refine fill_list (A := A) (t := { s with heap := s.heap.push (set0 w) }) ns hh hL (Heap.lt_size hol) hit hb rfl fun h' tk c hS hc hk => ?_
        refine wpAny_pure ?_
        show wpAny _ _ (ret Value.none) _ _ _
        exact wpAny_pure ⟨rfl, h', tk, c, rfl, hS, hc, hk⟩
      · cases r₂ with
        | error e => exact hr₂
        | ok fl₂ =>
          cases fl₂ with
          | ret r =>
            obtain ⟨rfl, h', tk, c, rfl, hS, hc, hk⟩ := hr₂
            repeat (any_goals (first | assumption | wp_step))
            exact h _ _ _ hS hc hk
          | _ => exact hr₂.elim
    | _ => exact hr.elim
end
end DD

set_option Elab.async false
set_option linter.all false
set_option maxRecDepth 100000
set_option maxHeartbeats 4000000
namespace DD
open PySem PySem.Spec PyProof.Rows L2

/-! ### l.extend(a tuple), a list + a list -/
theorem ext_tup (l : Addr) (items : Array Value) (n : Nat) (b : Addr) (items2 : Array Value) (n2 : Nat) (dd : Option Addr) (sl : Array (Option Value)) (c0 : ¬(!items.isEmpty && Builtin.List.listTooLong (items.size + items2.size)) = true) (c1 : items.size ≤ sizeLine) (c2 : items.size + items2.size ≤ sizeLine + 1) :
    Meets (Builtin.«list.extend» ⟨[.ref l, .ref b], []⟩) (fun _ R s => s.heap.get? l = some { cls := .type "list", dict := none, data := .seq items n, slots := #[] } ∧ s.heap.get? b = some { cls := .type "tuple", dict := dd, data := .seq items2 n2, slots := sl } ∧
      R (.ok (.ret Value.none)) { s with heap := s.heap.update l (Obj.mapSeq fun x => x ++ items2) }) :=
  .of_wp fun prog w A R s h => by
    obtain ⟨hp, g, d, tk, os⟩ := s
    obtain ⟨hl, hb, h⟩ := h
    have f1 := AutoSeq1.sub_tuple_tuple
    have f2 := AutoSeq1.sub_list_list
    have f3 := AutoSeq1.sub_tuple_list
    have f4 := AutoSeq1.sub_list_tuple
    have f5 : (items ++ items2).size ≤ sizeLine + 1 := by rw [Array.size_append]; exact c2
    wp_walk using (wpAny_updateSeq hl rfl (hz := c1) (_hz' := f5)), wpAny_loadPart' hl, wpAny_loadPart' hb
    exact ⟨_, rfl, h⟩
section
variable {X : Cx}
def rExtendA (K : PySem.W.Frag) : V → List V → Hp → VK → Prop := fun x vs H Q => ∃ l b xs zs, x = .ref l ∧ vs = [.ref b] ∧ H l = some (.lst xs) ∧ SqT K H b zs ∧ xs.length + zs.length ≤ sizeLine ∧ Q .non (upd H l (.lst (xs ++ zs)))
theorem mt_extendA : MtM X "list.extend" (rExtendA X.K) := by
  intro pins s σ H x vs v us Q I rx rv h
  obtain ⟨l, b, xs, zs, rfl, rfl, hH, hB, hz, q⟩ := h
  cases rx
  obtain ⟨u, rfl, ru⟩ := rv.one
  cases ru
  obtain ⟨z, its, n, r, hl, e⟩ := I.lstM hH
  obtain ⟨its2, r2, ⟨⟨cls2, dd2, data2, sl2⟩, e2, hc2, n2, hd2⟩, z2⟩ := I.tuple hB
  simp only at hc2 hd2
  subst hc2 hd2
  have l2 := r2.length
  have sz : its.toArray.size + its2.toArray.size ≤ sizeLine := by rw [List.size_toArray, List.size_toArray]; omega
  have nl : ¬ (!its.toArray.isEmpty && Builtin.List.listTooLong (its.toArray.size + its2.toArray.size)) = true := by
    rw [notLongL sz, Bool.and_false]
    exact Bool.false_ne_true
  refine call_meets F.slot_list_extend ⟨_, e, rfl⟩ F.entry_list_extend (F.args_list_extend_2 _ _)
    (ext_tup l its.toArray n b its2.toArray n2 dd2 sl2 nl (by omega) (by omega)) ⟨e, e2, ?_⟩
  refine ⟨.non, _, I.lset (its' := its ++ its2) hH e (by simp) (r.append r2) ?_, rfl, q⟩
  rw [List.length_append]
  omega
def rCatX (K : PySem.W.Frag) : R2 := fun x y H Q => ∃ l b xs zs, x = .ref l ∧ y = .ref b ∧ SqL K H l xs ∧ SqL K H b zs ∧ xs.length + zs.length ≤ sizeLine ∧ ∀ p, H p = none → Q (.ref p) (upd H p (.lst (xs ++ zs)))
theorem op_catX : OpR X (binaryOp .Add) (rCatX X.K) := by
  intro pins s σ H x y v u Q I rx ry h
  obtain ⟨l, b, xs, zs, rfl, rfl, hH, hB, hz, q⟩ := h
  cases rx
  cases ry
  obtain ⟨its, r, ⟨⟨c1, dd1, data1, sl1⟩, n, e, hc1, hn1, hd1⟩, z1⟩ := I.list hH
  obtain ⟨its2, r2, ⟨⟨c2, dd2, data2, sl2⟩, n2, e2, hc2, hn2, hd2⟩, z2⟩ := I.list hB
  simp only at hc1 hd1 hc2 hd2
  subst hc1 hd1 hc2 hd2
  have l1 := r.length
  have l2 := r2.length
  refine concat_meets ⟨_, e, rfl⟩ ⟨_, e2, rfl⟩ noFill_list_add seq_list_add PySem.F.slot_list_add PySem.F.entry_list_add (PySem.F.args_list_add_2 _ _) (list_addW l b its.toArray its2.toArray n n2 dd1 dd2 sl1 sl2 (by simp; omega)) ⟨e, e2, ?_⟩
  have ea : its.toArray ++ its2.toArray = (its ++ its2).toArray := by simp
  rw [ea]
  exact ⟨.ref s.heap.objs.size, upd H s.heap.objs.size (.lst (xs ++ zs)), I.laid (t' := s.toks) (fun _ _ z => Heap.get?_push_of_some _ z) (Nat.le_refl _) ⟨by rw [List.length_append]; exact hz, its ++ its2, 0, r.append r2, Heap.get?_push_size _ rfl⟩, rfl, q _ (I.hok.fresh (Nat.le_refl _))⟩
end
section
variable {K : PySem.W.Frag}
def sExtendA (i : Nat) (a : En → Option D) : En → Option Fl := fun ρ => match ρ[i]? with
  | some (some (.own ds)) => (a ρ).bind fun x => match x with
    | .tuple es => if ds.length + es.length ≤ cap then some (.nx (ρ.set i (some (.own (ds ++ es))))) else none
    | _ => none
  | _ => none
theorem st_extendA {i : Nat} {te : TE} {ma : En → Option D} (ha : ET K te ma) : TSm K (tDrop (tBM K "list" (rExtendA K) (tVar i) (tCons te tNil))) (sExtendA i ma) := by
  refine ⟨fun {H0 T0 σ ρ H T f} G h E q => ?_⟩
  unfold sExtendA at h
  split at h
  · rename_i ds e
    obtain ⟨x, hx, h⟩ := bind_some h
    split at h
    · rename_i es
      split at h
      · rename_i hz
        cases h
        obtain ⟨p, xs, a, b, c, g⟩ := G.own i ds e
        refine ⟨.ref p, a, .inl ⟨rfl, xs, SqL.of (ov_own b)⟩, ?_⟩
        refine ha.run G hx _ fun v H1 s1 d1 p1 => ?_
        obtain ⟨pt, zs, rfl, hs, gz⟩ := dp_tup p1
        have G1 := G.mono s1 d1
        have gx := dpa_mono s1 g
        refine ⟨p, pt, xs, zs, rfl, rfl, ov_own b, sqt_ov d1 hs, ?_, ?_⟩
        · rw [dpa_len gx, dpa_len gz]
          exact cap_line hz
        · rw [upd_put]
          exact q _ H1 _ (G1.turn e a b (dpa_append gx gz))
      · cases h
    · cases h
  · cases h
def mCatV (a : En → Option D) (b : En → Option (List D)) : En → Option (List D) := fun ρ => (a ρ).bind fun x => (b ρ).bind fun y => match x with
  | .list xs => if xs.length + y.length ≤ cap then some (xs ++ y) else none
  | _ => none
theorem fl_catV {ta tb : TE} {ma : En → Option D} {mb : En → Option (List D)} (ha : ET K ta ma) (hb : FL K tb mb) : FL K (tOp (rCatX K) ta tb) (mCatV ma mb) := by
  refine ⟨fun {H0 T0 σ ρ H T out} G h Q q => ?_⟩
  obtain ⟨x, hx, h⟩ := bind_some h
  obtain ⟨y, hy, h⟩ := bind_some h
  refine ha.run G hx _ fun v H1 s1 d1 p1 => ?_
  refine hb.run (G.mono s1 d1) hy _ fun p xs H2 s2 d2 np g2 => ?_
  split at h
  · split at h
    · rename_i hz
      cases h
      obtain ⟨a, us, rfl, hs, gu⟩ := dp_lst (dp_mono s2 p1)
      obtain ⟨nT, nH⟩ := ov_free np
      have sn : Same H2 (upd H2 p (.lst xs)) := same_new nH
      rw [upd_ov nT]
      refine ⟨a, p, us, xs, rfl, rfl, sql_ov (dis_upd d2 nT) (sn.seq hs), sql_ov (dis_upd d2 nT) (.of upd_same), by rw [dpa_len gu, dpa_len g2]; exact cap_line hz, fun p2 np2 => ?_⟩
      obtain ⟨nT2, nH2⟩ := ov_free np2
      exact q p2 _ _ ((s1.trans s2).trans sn) (dis_upd d2 nT) np2 (dpa_append (dpa_mono sn gu) (dpa_mono sn g2))
    · cases h
  · cases h
theorem fl_cat {ta tb : TE} {ma mb : En → Option (List D)} (ha : FL K ta ma) (hb : FL K tb mb) : FL K (tOp (rCatX K) ta tb) (mCatL ma mb) := by
  refine ⟨fun {H0 T0 σ ρ H T out} G h Q q => ?_⟩
  obtain ⟨x, hx, h⟩ := bind_some h
  obtain ⟨y, hy, h⟩ := bind_some h
  refine fl_catV (ev_list ha) hb |>.run G (ds := out) ?_ Q q
  show ((ma ρ).map PyData.list).bind _ = _
  rw [hx]
  show (mb ρ).bind _ = _
  rw [hy]
  exact h
end
end DD

set_option Elab.async false
set_option linter.all false
set_option maxRecDepth 100000
set_option maxHeartbeats 4000000
namespace DD
open PySem PySem.Spec PyProof.Rows L2

/-! ### sorted(set(ints)) -/
def ins1 (x : Int) : List Int → List Int
  | [] => [x]
  | y :: r => if x < y then x :: y :: r else if x = y then y :: r else y :: ins1 x r
def sset : List Int → List Int
  | [] => []
  | x :: r => ins1 x (sset r)
theorem ins1_mem {x z : Int} : ∀ {l : List Int}, z ∈ ins1 x l ↔ z = x ∨ z ∈ l
  | [] => by simp [ins1]
  | y :: r => by
    unfold ins1
    by_cases h : x < y
    · rw [if_pos h]; simp
    · rw [if_neg h]
      by_cases h2 : x = y
      · rw [if_pos h2]; subst h2; simp
      · rw [if_neg h2]
        simp only [List.mem_cons, ins1_mem (l := r)]
        exact ⟨fun q => by rcases q with q | q | q <;> simp [q], fun q => by rcases q with q | q | q <;> simp [q]⟩
theorem ins1_sorted {x : Int} : ∀ {l : List Int}, l.Pairwise (· < ·) → (ins1 x l).Pairwise (· < ·)
  | [], _ => by simp [ins1]
  | y :: r, h => by
    obtain ⟨h1, h2⟩ := List.pairwise_cons.mp h
    unfold ins1
    by_cases c : x < y
    · rw [if_pos c]
      refine List.pairwise_cons.mpr ⟨fun z hz => ?_, h⟩
      rcases List.mem_cons.mp hz with rfl | hz
      · exact c
      · exact Int.lt_trans c (h1 z hz)
    · rw [if_neg c]
      by_cases c2 : x = y
      · rw [if_pos c2]; exact h
      · rw [if_neg c2]
        refine List.pairwise_cons.mpr ⟨fun z hz => ?_, ins1_sorted h2⟩
        rcases ins1_mem.mp hz with rfl | hz
        · omega
        · exact h1 z hz
theorem sset_mem {z : Int} : ∀ {l : List Int}, z ∈ sset l ↔ z ∈ l
  | [] => Iff.rfl
  | x :: r => by
    show z ∈ ins1 x (sset r) ↔ _
    rw [ins1_mem, sset_mem (l := r), List.mem_cons]
theorem sset_sorted : ∀ (l : List Int), (sset l).Pairwise (· < ·)
  | [] => .nil
  | x :: r => ins1_sorted (sset_sorted r)
theorem lt_uniq : ∀ {a b : List Int}, a.Pairwise (· < ·) → b.Pairwise (· < ·) → (∀ z, z ∈ a ↔ z ∈ b) → a = b
  | [], [], _, _, _ => rfl
  | [], y :: r, _, _, h => absurd ((h y).mpr List.mem_cons_self) (by simp)
  | x :: r, [], _, _, h => absurd ((h x).mp List.mem_cons_self) (by simp)
  | x :: r, y :: t, ha, hb, h => by
    obtain ⟨a1, a2⟩ := List.pairwise_cons.mp ha
    obtain ⟨b1, b2⟩ := List.pairwise_cons.mp hb
    have e : x = y := by
      rcases List.mem_cons.mp ((h x).mp List.mem_cons_self) with e | e
      · exact e
      · rcases List.mem_cons.mp ((h y).mpr List.mem_cons_self) with e2 | e2
        · exact e2.symm
        · exact absurd (Int.lt_trans (b1 x e) (a1 y e2)) (Int.lt_irrefl _)
    subst e
    refine congrArg _ (lt_uniq a2 b2 fun z => ⟨fun q => ?_, fun q => ?_⟩)
    · rcases List.mem_cons.mp ((h z).mp (List.mem_cons_of_mem _ q)) with e | e
      · exact absurd (e ▸ a1 z q) (Int.lt_irrefl _)
      · exact e
    · rcases List.mem_cons.mp ((h z).mpr (List.mem_cons_of_mem _ q)) with e | e
      · exact absurd (e ▸ b1 z q) (Int.lt_irrefl _)
      · exact e
def intsD : List D → Option (List Int)
  | [] => some []
  | .int i :: r => (intsD r).map (i :: ·)
  | _ => none
theorem ints_some : ∀ {ds : List D} {ns : List Int}, intsD ds = some ns → ds = ns.map PyData.int
  | [], _, h => by cases h; rfl
  | d :: r, ns, h => by
    cases d <;> first | exact nomatch (show none = some ns from h) | skip
    obtain ⟨ms, e, h⟩ := map_some h
    subst h
    rw [ints_some e]; rfl
theorem ints_map : ∀ ns : List Int, intsD (ns.map PyData.int) = some ns
  | [] => rfl
  | i :: r => by show (intsD _).map _ = _; rw [ints_map r]; rfl
theorem dpa_ints_v {K : PySem.W.Frag} {H : Hp} : ∀ {ns : List Int} {vs : List V}, DpAll K H vs (ns.map PyData.int) → vs = ns.map V.int
  | [], _, h => by cases h; rfl
  | i :: r, _, h => by
    cases h with
    | cons a b => rw [dp_int a, dpa_ints_v b]; rfl
section
variable {X : Cx}
def tSortedSet (K : PySem.W.Frag) (ta : TE) : TE := fun σ H Q => ta σ H fun x H1 => ∃ (l : Addr) (ns : List Int), x = V.ref l ∧ SqL K H1 l (ns.map V.int) ∧ ns.length < 63 ∧ ∀ p, H1 p = none → Q (.ref p) (upd H1 p (.lst ((sset ns).map V.int)))
theorem pe_sortedSet {a : Expr} {ta : TE} {p p2 q pos : Pos} (hg : Gl X "sorted") (hm : X.mg "sorted" = none) (hg2 : Gl X "set") (hm2 : X.mg "set" = none) (ha : PE X a ta) (hc : X.calm = true := by rfl)
    (na : starEach [a] X.env = (false, eval a X.env) :: starEach [] X.env := by rfl) : PE X (.Call (.Name "sorted" p) [.Call (.Name "set" p2) [a] [] q] [] pos) (tSortedSet X.K ta) := by
  refine ⟨fun pins s σ H Q I h => ?_⟩
  refine Call_ (ld_blt I hg hm (by boot_by_name) ?_)
  refine PyProof.Rows.callWith_builtin1 (PyProof.Rows.args_cons ?_ rfl) rfl rfl
  refine Call_ (ld_blt I hg2 hm2 boot_set ?_)
  refine PyProof.Rows.callWith_type1 (PyProof.Rows.args_cons (thn (ha.run pins s σ H _ I h) fun v s1 ⟨x, H1, I1, r1, q1⟩ => PyProof.Rows.args_nil ?_) na) na rfl
  obtain ⟨l, ns, rfl, hq, hl, q1⟩ := q1
  cases r1
  obtain ⟨its, r, pl, hz⟩ := I1.list hq
  refine call_setI ns (I1.ok.hd hc) pl.isList (by simpa using r.ints) (by unfold scanBound; omega) fun h' tk c hS hcl hk => ?_
  refine PyProof.Rows.args_nil ?_
  have I2 : Inv X pins σ H1 { s1 with heap := h', toks := tk } := I1.kept fun b o e => hk b o e
  refine sorted_set hS (I2.ok.hd hc) (by omega) fun s' p out c2 ns2 k g o hp hg hi hs hm hln => ?_
  have e : ns2 = sset ns := lt_uniq hs (sset_sorted ns) fun z => by rw [hm, sset_mem]; simp
  subst e
  have hlen : ((sset ns).map V.int).length ≤ sizeLine := by rw [List.length_map, hln, sizeLine_eq]; omega
  have hn : H1 p = none := I2.hok.fresh hp
  have J : Inv X pins σ (upd H1 p (.lst ((sset ns).map V.int))) { { s1 with heap := h', toks := tk } with heap := s'.heap, gens := s'.gens, drawn := s'.drawn, toks := s'.toks } :=
    I2.call (ch := []) (Un.laid k hp hn) (I2.hok.laid k hp ⟨hlen, out.toList, c2, vals_of_ints hi, hg⟩) (by rw [g]; exact I2.bare) (fun _ z => nomatch z)
  have e : s' = { { s1 with heap := h', toks := tk } with heap := s'.heap, gens := s'.gens, drawn := s'.drawn, toks := s'.toks } := by
    cases s'
    cases s1
    cases o
    rfl
  rw [e]
  exact ⟨.ref p, _, J, rfl, q1 p hn⟩
end
section
variable {K : PySem.W.Frag}
def mSortedSet (a : En → Option D) : En → Option (List D) := fun ρ => (a ρ).bind fun x => match x with
  | .list ds => (intsD ds).bind fun ns => if ns.length < 63 then some ((sset ns).map PyData.int) else none
  | _ => none
theorem fl_sortedSet {ta : TE} {ma : En → Option D} (ha : ET K ta ma) : FL K (tSortedSet K ta) (mSortedSet ma) := by
  refine ⟨fun {H0 T0 σ ρ H T out} G h Q q => ?_⟩
  obtain ⟨x, hx, h⟩ := bind_some h
  refine ha.run G hx _ fun v H1 s1 d1 p1 => ?_
  split at h
  · obtain ⟨ns, e, h⟩ := bind_some h
    split at h
    · rename_i hz
      cases h
      cases ints_some e
      obtain ⟨a, us, rfl, hs, gu⟩ := dp_lst p1
      cases dpa_ints_v gu
      exact ⟨a, ns, rfl, sql_ov d1 hs, hz, fun p np => q p _ H1 s1 d1 np (dpa_ints _)⟩
    · cases h
  · cases h
end

/-! ### sorted(texts) -/
def leS (a b : Str) : Bool := !ltCps b.cps.toList a.cps.toList
def insS (x : Str) : List Str → List Str
  | [] => [x]
  | y :: r => if leS x y = true then x :: y :: r else y :: insS x r
def sortS : List Str → List Str
  | [] => []
  | x :: r => insS x (sortS r)
theorem leS_iff {a b : Str} : leS a b = true ↔ a.cps.toList ≤ b.cps.toList := by
  unfold leS
  rw [ltCps_eq, ← List.not_lt]
  simp
theorem leS_trans {a b c : Str} (h : leS a b = true) (g : leS b c = true) : leS a c = true := leS_iff.mpr (List.le_trans (leS_iff.mp h) (leS_iff.mp g))
theorem leS_total (a b : Str) : leS a b = true ∨ leS b a = true := by
  by_cases h : leS a b = true
  · exact .inl h
  · refine .inr ?_
    unfold leS at h ⊢
    rw [ltCps_eq] at h ⊢
    have h' : b.cps.toList < a.cps.toList := by simpa using h
    simpa using List.le_of_lt h'
theorem leS_anti {a b : Str} (h : leS a b = true) (g : leS b a = true) : a = b := by
  have e : a.cps.toList = b.cps.toList := List.le_antisymm (leS_iff.mp h) (leS_iff.mp g)
  obtain ⟨⟨x⟩⟩ := a
  obtain ⟨⟨y⟩⟩ := b
  cases e
  rfl
theorem insS_perm (x : Str) : ∀ l : List Str, (insS x l).Perm (x :: l)
  | [] => .refl _
  | y :: r => by
    unfold insS
    split
    · exact .refl _
    · exact ((insS_perm x r).cons y).trans (.swap x y r)
theorem sortS_perm : ∀ l : List Str, (sortS l).Perm l
  | [] => .refl _
  | x :: r => (insS_perm x (sortS r)).trans ((sortS_perm r).cons x)
theorem insS_sorted {x : Str} : ∀ {l : List Str}, l.Pairwise (fun a b => leS a b = true) → (insS x l).Pairwise (fun a b => leS a b = true)
  | [], _ => by simp [insS]
  | y :: r, h => by
    obtain ⟨h1, h2⟩ := List.pairwise_cons.mp h
    unfold insS
    split
    · rename_i c
      refine List.pairwise_cons.mpr ⟨fun z hz => ?_, h⟩
      rcases List.mem_cons.mp hz with rfl | hz
      · exact c
      · exact leS_trans c (h1 z hz)
    · rename_i c
      refine List.pairwise_cons.mpr ⟨fun z hz => ?_, insS_sorted h2⟩
      rcases List.mem_cons.mp ((insS_perm x r).mem_iff.mp hz) with rfl | hz
      · exact (leS_total z y).resolve_left c
      · exact h1 z hz
theorem sortS_sorted : ∀ l : List Str, (sortS l).Pairwise (fun a b => leS a b = true)
  | [] => .nil
  | x :: r => insS_sorted (sortS_sorted r)
theorem risingS_pw : ∀ {p : Str} {l : List Str}, risingS p l = true → (p :: l).Pairwise (fun a b => leS a b = true)
  | p, [], _ => List.pairwise_singleton _ _
  | p, x :: r, h => by
    have h' : (leS p x && risingS x r) = true := h
    obtain ⟨h1, h2⟩ := Bool.and_eq_true_iff.mp h'
    have ih := risingS_pw h2
    refine List.pairwise_cons.mpr ⟨fun z hz => ?_, ih⟩
    rcases List.mem_cons.mp hz with rfl | hz
    · exact h1
    · exact leS_trans h1 ((List.pairwise_cons.mp ih).1 z hz)
theorem sortedS_pw : ∀ {l : List Str}, sortedS l = true → l.Pairwise (fun a b => leS a b = true)
  | [], _ => .nil
  | _ :: _, h => risingS_pw h
theorem sortS_uniq {l ys : List Str} (h : ys.Perm l) (g : sortedS ys = true) : ys = sortS l :=
  List.Perm.eq_of_pairwise (fun a b _ _ x y => leS_anti x y) (sortedS_pw g) (sortS_sorted l) (h.trans (sortS_perm l).symm)
def strsD : List D → Option (List Str)
  | [] => some []
  | .str x :: r => (strsD r).map (x :: ·)
  | _ => none
theorem strs_some : ∀ {ds : List D} {ns : List Str}, strsD ds = some ns → ds = ns.map PyData.str
  | [], _, h => by cases h; rfl
  | d :: r, ns, h => by
    cases d <;> first | exact nomatch (show none = some ns from h) | skip
    obtain ⟨ms, e, h⟩ := map_some h
    subst h
    rw [strs_some e]; rfl
theorem dpa_strs {K : PySem.W.Frag} {H : Hp} : ∀ ns : List Str, DpAll K H (ns.map V.str) (ns.map PyData.str)
  | [] => .nil
  | x :: r => .cons (.str x) (dpa_strs r)
theorem dpa_strs_v {K : PySem.W.Frag} {H : Hp} : ∀ {ns : List Str} {vs : List V}, DpAll K H vs (ns.map PyData.str) → vs = ns.map V.str
  | [], _, h => by cases h; rfl
  | i :: r, _, h => by
    cases h with
    | cons a b => rw [dp_str a, dpa_strs_v b]; rfl
section
variable {K : PySem.W.Frag}
def dSortedS : List D → Option (List D)
  | [.list ds] => (strsD ds).bind fun ns => if ns.length < 64 then some ((sortS ns).map PyData.str) else none
  | _ => none
theorem cl_sortedS : CL K (rSortedS K) dSortedS := by
  refine ⟨?_⟩
  intro H T vs ds out dis g h Q q
  unfold dSortedS at h
  split at h
  · obtain ⟨ns, e, h⟩ := bind_some h
    split at h
    · rename_i hz
      cases h
      cases strs_some e
      obtain ⟨v, rfl, g2⟩ := dpa_one g
      obtain ⟨a, us, rfl, hs, gu⟩ := dp_lst g2
      cases dpa_strs_v gu
      refine ⟨a, ns, rfl, sql_ov dis hs, hz, fun ys p hp hs hn => ?_⟩
      cases sortS_uniq hp hs
      exact q p _ H (Same.refl H) dis hn (dpa_strs _)
    · cases h
  · cases h
end
end DD

set_option Elab.async false
set_option linter.all false
set_option maxRecDepth 100000
set_option maxHeartbeats 4000000
namespace DD
open PySem PySem.Spec PyProof.Rows L2

/-! ### a dict of the top, as data -/
def deVs (f : Value → Option D) : List Value → Option (List D)
  | [] => some []
  | u :: r => match f u, deVs f r with
    | some d, some ds => some (d :: ds)
    | _, _ => none
def deF : Value → Option D
  | .none => some .none
  | .bool b => some (.bool b)
  | .int i _ => some (.int i)
  | .str x _ => some (.str x)
  | _ => none
def deV (K : PySem.W.Frag) : Nat → Value → Option D
  | n + 1, .ref a => match K.lookup a with
    | some ⟨.type c, _, .seq its _, _⟩ => match decide (c = "tuple") && decide (its.size ≤ 1000) with
      | true => (deVs (deV K n) its.toList).map PyData.tuple
      | false => none
    | _ => none
  | _, u => deF u
def dicD (K : PySem.W.Frag) : List DictEntry → Option (List (Str × D))
  | [] => some []
  | e :: r => match e.key, deV K 3 e.val, dicD K r with
    | .str x _, some d, some ds => some ((x, d) :: ds)
    | _, _, _ => none
def dicAt (K : PySem.W.Frag) (a : Addr) : Option (List (Str × D)) := match K.lookup a with
  | some ⟨_, _, .dict es _, _⟩ => dicD K es.toList
  | _ => none
theorem deVs_ok {K : PySem.W.Frag} {f : Value → Option D} (hf : ∀ (u : Value) {d : D}, f u = some d → ∃ v, RelV v u ∧ ∀ H, Dp K H v d) : ∀ (us : List Value) {ds : List D}, deVs f us = some ds → ∃ vs, Vals vs us ∧ ∀ H, DpAll K H vs ds
  | [], _, h => by cases h; exact ⟨[], .nil, fun _ => .nil⟩
  | u :: r, ds, h => by
    unfold deVs at h
    split at h
    · rename_i d ds2 e1 e2
      cases h
      obtain ⟨v, rv, g⟩ := hf u e1
      obtain ⟨vs, rvs, gs⟩ := deVs_ok hf r e2
      exact ⟨v :: vs, .cons rv rvs, fun H => .cons (g H) (gs H)⟩
    · cases h
theorem deF_ok {K : PySem.W.Frag} (u : Value) {d : D} (h : deF u = some d) : ∃ v, RelV v u ∧ ∀ H, Dp K H v d := by
  cases u with
  | none => cases h; exact ⟨.non, rfl, fun _ => .non⟩
  | bool b => cases h; exact ⟨.bl b, rfl, fun _ => .bl b⟩
  | int i t => cases h; exact ⟨.int i, ⟨t, rfl⟩, fun _ => .int i⟩
  | str x t => cases h; exact ⟨.str x, ⟨t, rfl⟩, fun _ => .str x⟩
  | _ => cases h
theorem deV_ok {K : PySem.W.Frag} : ∀ (n : Nat) (u : Value) {d : D}, deV K n u = some d → ∃ v, RelV v u ∧ ∀ H, Dp K H v d
  | 0, u, _, h => by
    refine deF_ok u ?_
    unfold deV at h
    exact h
  | n + 1, u, d, h => by
    cases u with
    | ref a =>
      unfold deV at h
      split at h
      · rename_i c od its k sl e
        split at h
        · rename_i e2
          obtain ⟨e3, e4⟩ := Bool.and_eq_true_iff.mp e2
          have e5 : c = "tuple" := of_decide_eq_true e3
          have e6 : its.size ≤ 1000 := of_decide_eq_true e4
          obtain ⟨ds, e7, h⟩ := map_some h
          subst h e5
          obtain ⟨vs, rv, g⟩ := deVs_ok (fun u {d} h => deV_ok n u h) its.toList e7
          exact ⟨.ref a, rfl, fun H => .tup (.inr ⟨_, its, k, e, rfl, rfl, Nat.le_trans e6 (by decide), rv⟩) (g H)⟩
        · cases h
      · cases h
    | _ => exact deF_ok _ (by unfold deV at h; exact h)
def kget (kvs : List (Str × D)) (z : Str) : Option D := match kvs.find? fun kv => kv.1 == z with
  | some kv => some kv.2
  | none => none
/-- at d: the dict of these keys and data -/
structure DictC (K : PySem.W.Frag) (w : World) (d : Addr) (kvs : List (Str × D)) : Prop where
  kd : ∃ es n, KDict K w d es n ∧ es.toList.map He.keyOf = He.keysIn w.params (kvs.map (·.1))
  hit : ∀ z x, kget kvs z = some x → ∃ u v, PySem.W.nsIn K d z = some (some u) ∧ RelV v u ∧ ∀ H, Dp K H v x
  miss : ∀ z, kget kvs z = none → PySem.W.nsIn K d z = some none
theorem dicD_hit {K : PySem.W.Frag} : ∀ {l : List DictEntry} {kvs : List (Str × D)}, dicD K l = some kvs → ∀ z : Str,
    (∀ x, kget kvs z = some x → ∃ e v, l.find? (·.key.isStr z) = some e ∧ RelV v e.val ∧ ∀ H, Dp K H v x) ∧ (kget kvs z = none → l.find? (·.key.isStr z) = none)
  | [], kvs, h, z => by
    cases h
    exact ⟨fun x h => by simp [kget] at h, fun _ => rfl⟩
  | e :: r, kvs, h, z => by
    unfold dicD at h
    split at h
    · rename_i x t d ds e1 e2 e3
      cases h
      obtain ⟨i1, i2⟩ := dicD_hit e3 z
      have ek : e.key.isStr z = (x == z) := by rw [e1]; rfl
      by_cases c : (x == z) = true
      · have g : kget ((x, d) :: ds) z = some d := by unfold kget; rw [List.find?_cons_of_pos (by exact c)]
        obtain ⟨v, rv, dv⟩ := deV_ok 3 e.val e2
        refine ⟨fun y hy => ?_, fun hn => by rw [g] at hn; cases hn⟩
        rw [g] at hy
        cases hy
        exact ⟨e, v, by rw [List.find?_cons_of_pos (by rw [ek]; exact c)], rv, dv⟩
      · have g : kget ((x, d) :: ds) z = kget ds z := by unfold kget; rw [List.find?_cons_of_neg (by exact c)]
        rw [g, List.find?_cons_of_neg (by rw [ek]; exact c)]
        exact ⟨i1, i2⟩
    · cases h
theorem dictC_of {K : PySem.W.Frag} {w : World} {a : Addr} {kvs : List (Str × D)} (h1 : He.dicW K a = some (He.keysIn w.params (kvs.map (·.1)))) (h2 : dicAt K a = some kvs) : DictC K w a kvs := by
  obtain ⟨es, n, kd⟩ := He.dicW_ok h1
  have e1 : es.toList.map He.keyOf = He.keysIn w.params (kvs.map (·.1)) := by
    unfold He.dicW at h1
    rw [kd.at_] at h1
    simp only at h1
    split at h1
    · exact Option.some.inj h1
    · cases h1
  have e2 : dicD K es.toList = some kvs := by
    unfold dicAt at h2
    rw [kd.at_] at h2
    exact h2
  have nr : es.toList.any (·.refKey) = false := by
    rw [List.any_eq_false]
    intro e he
    obtain ⟨x, t, ek, _⟩ := PySem.W.KeysLit.all kd.lit e he
    simp [DictEntry.refKey, ek]
  refine ⟨⟨es, n, kd, e1⟩, fun z x hx => ?_, fun z hz => ?_⟩
  · obtain ⟨e, v, h3, rv, dv⟩ := (dicD_hit e2 z).1 x hx
    refine ⟨e.val, v, ?_, rv, dv⟩
    unfold PySem.W.nsIn
    rw [kd.at_]
    simp only
    rw [h3]
  · have h3 := (dicD_hit e2 z).2 hz
    unfold PySem.W.nsIn
    rw [kd.at_]
    simp only
    rw [h3]
    simp only
    rw [if_neg (by rw [nr]; exact Bool.false_ne_true)]
end DD

set_option Elab.async false
set_option linter.all false
set_option maxRecDepth 100000
set_option maxHeartbeats 4000000
namespace DD
open PySem PySem.Spec PyProof.Rows L2

section
variable {X : Cx} {d : Addr} {kvs : List (Str × D)}
def rInK (K : PySem.W.Frag) (d : Addr) : R2 := fun x y H Q => ∃ (z : Str) (r : Option Value), x = .str z ∧ y = .ref d ∧ PySem.W.nsIn K d z = some r ∧ Q (.bl r.isSome) H
def rNotInK (K : PySem.W.Frag) (d : Addr) : R2 := fun x y H Q => ∃ (z : Str) (r : Option Value), x = .str z ∧ y = .ref d ∧ PySem.W.nsIn K d z = some r ∧ Q (.bl (!r.isSome)) H
theorem op_inK (D : DictC X.K X.w d kvs) : OpR X (compareOp .In) (rInK X.K d) := let ⟨_, _, k, _⟩ := D.kd; op_in_kd k
theorem op_notInK (D : DictC X.K X.w d kvs) : OpR X (compareOp .NotIn) (rNotInK X.K d) := let ⟨_, _, k, _⟩ := D.kd; op_notIn_kd k
def rGetK (K : PySem.W.Frag) (d : Addr) : R2 := fun x y H Q => ∃ (z : Str) (u : Value) (v : V), x = .ref d ∧ y = .str z ∧ PySem.W.nsIn K d z = some (some u) ∧ RelV v u ∧ Q v H
theorem ix_getK (D : DictC X.K X.w d kvs) : IxR X (rGetK X.K d) := by
  obtain ⟨es, n, k, _⟩ := D.kd
  intro value slice pins s σ H x y v u Q I rx ry h hs
  obtain ⟨z, u0, v0, rfl, rfl, e, r, q⟩ := h
  exact ix_kdict value slice pins s σ H _ _ v u Q I rx ry ⟨d, z, v0, rfl, rfl, ⟨es, n, u0, k.at_, k.lit, e, r⟩, q⟩ hs
def rSortedK (d : Addr) (ks : List Str) : List V → Hp → VK → Prop := fun vs H Q => vs = [V.ref d] ∧ ∀ (p : Addr), H p = none → Q (.ref p) (upd H p (.lst ((sortS ks).map V.str)))
theorem keys_of : ∀ {l : List DictEntry} {ks : List Str} {P : Params}, l.map He.keyOf = He.keysIn P ks → l.length = ks.length ∧ ∀ (j : Nat) (e : DictEntry), l[j]? = some e → ∃ x t, ks[j]? = some x ∧ e.key = .str x t
  | [], [], _, _ => ⟨rfl, fun j e h => by simp at h⟩
  | [], _ :: _, _, h => by cases h
  | _ :: _, [], _, h => by cases h
  | e :: l, k :: ks, P, h => by
    have h1 : He.keyOf e :: l.map He.keyOf = some (k, PyData.keyHash P k) :: He.keysIn P ks := h
    injection h1 with h2 h3
    obtain ⟨i1, i2⟩ := keys_of h3
    refine ⟨by simp [i1], fun j e' he => ?_⟩
    cases j with
    | zero =>
      have : e = e' := by simpa using he
      subst this
      unfold He.keyOf at h2
      split at h2
      · rename_i x t q
        obtain ⟨h5, _⟩ := Prod.mk.inj (Option.some.inj h2)
        exact ⟨x, t, by rw [h5]; rfl, q⟩
      · cases h2
    | succ j =>
      obtain ⟨x, t, a, b⟩ := i2 j e' (by simpa using he)
      exact ⟨x, t, by simpa using a, b⟩
end
section
variable {K : PySem.W.Frag} {w : World} {d : Addr} {kvs : List (Str × D)}
def dInK (kvs : List (Str × D)) : D → Option D
  | .str z => some (.bool (kget kvs z).isSome)
  | _ => none
def dNotInK (kvs : List (Str × D)) : D → Option D
  | .str z => some (.bool (!(kget kvs z).isSome))
  | _ => none
def dGetK (kvs : List (Str × D)) : D → Option D
  | .str z => kget kvs z
  | _ => none
theorem DictC.any (C : DictC K w d kvs) (z : Str) : ∃ r, PySem.W.nsIn K d z = some r ∧ r.isSome = (kget kvs z).isSome := by
  cases e : kget kvs z with
  | none => exact ⟨none, C.miss z e, rfl⟩
  | some x =>
    obtain ⟨u, v, h, _⟩ := C.hit z x e
    exact ⟨some u, h, rfl⟩
theorem ev_inK {ta : TE} {ma : En → Option D} (C : DictC K w d kvs) (ha : ET K ta ma) : ET K (tOp (rInK K d) ta (tC (.ref d))) (mUn (dInK kvs) ma) := by
  refine ⟨fun {H0 T0 σ ρ H T y} G h Q q => ?_⟩
  obtain ⟨x, hx, h⟩ := bind_some h
  refine ha.run G hx _ fun v H1 s1 d1 p1 => ?_
  unfold dInK at h
  split at h
  · rename_i z
    cases h
    obtain ⟨r, e1, e2⟩ := C.any z
    refine ⟨z, r, dp_str p1, rfl, e1, ?_⟩
    rw [e2]
    exact q _ H1 s1 d1 (.bl _)
  · cases h
theorem ev_notInK {ta : TE} {ma : En → Option D} (C : DictC K w d kvs) (ha : ET K ta ma) : ET K (tOp (rNotInK K d) ta (tC (.ref d))) (mUn (dNotInK kvs) ma) := by
  refine ⟨fun {H0 T0 σ ρ H T y} G h Q q => ?_⟩
  obtain ⟨x, hx, h⟩ := bind_some h
  refine ha.run G hx _ fun v H1 s1 d1 p1 => ?_
  unfold dNotInK at h
  split at h
  · rename_i z
    cases h
    obtain ⟨r, e1, e2⟩ := C.any z
    refine ⟨z, r, dp_str p1, rfl, e1, ?_⟩
    rw [e2]
    exact q _ H1 s1 d1 (.bl _)
  · cases h
theorem ev_getK {ta : TE} {ma : En → Option D} (C : DictC K w d kvs) (ha : ET K ta ma) : ET K (tOp (rGetK K d) (tC (.ref d)) ta) (mUn (dGetK kvs) ma) := by
  refine ⟨fun {H0 T0 σ ρ H T y} G h Q q => ?_⟩
  obtain ⟨x, hx, h⟩ := bind_some h
  refine ha.run G hx _ fun v H1 s1 d1 p1 => ?_
  unfold dGetK at h
  split at h
  · rename_i z
    obtain ⟨u, v0, e1, r, g⟩ := C.hit z y h
    exact ⟨z, u, v0, rfl, dp_str p1, e1, r, q _ H1 s1 d1 (g _)⟩
  · cases h
def mSortedK (ks : List Str) : En → Option (List D) := fun _ => some ((sortS ks).map PyData.str)
theorem fl_sortedK {ks : List Str} : FL K (tCB (rSortedK d ks) (tCons (tC (.ref d)) tNil)) (mSortedK ks) := by
  refine ⟨fun {H0 T0 σ ρ H T out} G h Q q => ?_⟩
  cases h
  exact ⟨rfl, fun p np => q p _ H (Same.refl H) G.dis np (dpa_strs _)⟩

/-! ### l.index(x) -/
def dIndex (x y : D) : Option D := match x with
  | .list ds => if (SeqAt.shaped (.list ds) && SeqAt.shaped y) = true then (ds.findIdx? fun z => PyData.eqv z y).map fun j => .int (j : Nat) else none
  | _ => none
theorem ev_index {ta tb : TE} {ma mb : En → Option D} (ha : ET K ta ma) (hb : ET K tb mb) : ET K (tBM K "list" (rIndexD K) ta (tCons tb tNil)) (mOp dIndex ma mb) := by
  refine ⟨fun {H0 T0 σ ρ H T out} G h Q q => ?_⟩
  obtain ⟨x, hx, h⟩ := bind_some h
  obtain ⟨y, hy, h⟩ := bind_some h
  refine ha.run G hx _ fun v H1 s1 d1 p1 => ?_
  unfold dIndex at h
  split at h
  · rename_i _ ds _
    split at h
    · rename_i hs
      obtain ⟨h1, h2⟩ := Bool.and_eq_true_iff.mp hs
      obtain ⟨j, hj, h⟩ := map_some h
      subst h
      obtain ⟨a, us, rfl, hq, gu⟩ := dp_lst p1
      refine ⟨.inl ⟨rfl, us, sql_ov d1 hq⟩, ?_⟩
      refine hb.run (G.mono s1 d1) hy _ fun v2 H2 s2 d2 p2 => ?_
      obtain ⟨jl, j1, j2⟩ := List.findIdx?_eq_some_iff_getElem.mp hj
      refine ⟨a, v2, y, ds, j, ds[j], rfl, rfl, dp_ov d2 (dp_mono s2 (.lst hq gu)), dp_ov d2 p2, h1, h2, List.getElem?_eq_getElem jl, j1, fun m z hm hz => ?_, q _ H2 (s1.trans s2) d2 (.int _)⟩
      have ml : m < ds.length := Nat.lt_trans hm jl
      rw [List.getElem?_eq_getElem ml] at hz
      cases hz
      simpa using j2 m hm
    · cases h
  · cases h
end

/-! ### sorted(a dict of the top) -/
section
variable {X : Cx} {d : Addr} {kvs : List (Str × D)}
theorem pairs_of {P : Program} {w : World} : ∀ {l : List DictEntry} {ks : List Str}, l.map He.keyOf = He.keysIn w.params ks → Pairs (strKind P w) l (ks.zip (l.map (·.val)))
  | [], [], _ => .nil
  | [], _ :: _, h => by cases h
  | _ :: _, [], h => by cases h
  | e :: l, k :: ks, h => by
    have h1 : He.keyOf e :: l.map He.keyOf = some (k, PyData.keyHash w.params k) :: He.keysIn w.params ks := h
    injection h1 with h2 h3
    refine .cons ?_ rfl (pairs_of h3)
    unfold He.keyOf at h2
    split at h2
    · rename_i x t q
      obtain ⟨h5, _⟩ := Prod.mk.inj (Option.some.inj h2)
      rw [q, h5]
      exact strKind_is P w k t
    · cases h2
theorem strsAre_at : ∀ {vs : List Value} {ks : List Str}, vs.length = ks.length → (∀ (j : Nat) (v : Value), vs[j]? = some v → ∃ x t, ks[j]? = some x ∧ v = .str x t) → StrsAre vs ks
  | [], [], _, _ => .nil
  | [], _ :: _, h, _ => by simp at h
  | _ :: _, [], h, _ => by simp at h
  | v :: vs, k :: ks, h, g => by
    obtain ⟨x, t, e, rfl⟩ := g 0 v rfl
    have e2 : k = x := by simpa using e
    subst e2
    exact .cons k t (strsAre_at (by simpa using h) fun j u hu => by simpa using g (j + 1) u (by simpa using hu))
theorem cr_sortedK (C : DictC X.K X.w d kvs) (h64 : (kvs.map (·.1)).length < 64) (hnd : (kvs.map (·.1)).Nodup) (hcalm : X.calm = true) : CallR X (.builtin "sorted") (rSortedK d (kvs.map (·.1))) := by
  obtain ⟨es, n, k, ek⟩ := C.kd
  obtain ⟨hl, hat⟩ := keys_of ek
  intro pins s σ H xs us Q I r q
  obtain ⟨ex, q⟩ := q
  subst ex
  rw [Vals.ref1 r]
  have hle : (kvs.map (·.1)).length ≤ (es.toList.map (·.val)).length := by rw [List.length_map (as := es.toList), hl]; exact Nat.le_refl _
  have hlv : ((kvs.map (·.1)).zip (es.toList.map (·.val))).length = (kvs.map (·.1)).length := by rw [List.length_zip, List.length_map (as := es.toList), hl]; exact Nat.min_self _
  have da : s.heap.DictAt (strKind X.prog X.w) d ((kvs.map (·.1)).zip (es.toList.map (·.val))) n := by
    refine ⟨_, es, I.kIn d _ k.at_, ⟨rfl, rfl, rfl⟩, rfl, fun e he => ?_, pairs_of ek, ?_⟩
    · obtain ⟨x, t, e1, e2⟩ := PySem.W.KeysLit.all k.lit e (Array.mem_toList_iff.mpr he)
      exact ⟨x, by rw [e1]; exact strKind_is X.prog X.w x t, e2⟩
    · rw [List.map_fst_zip hle]
      exact hnd
  refine Calls.call_function_entry PyProof.Rows.kind_sorted PyProof.Rows.plain_sorted PyProof.Rows.entry_sorted (PyProof.Rows.args_sorted1 _) ?_
  unfold Builtin.«sorted»
  refine wpAny_bind (m := checkCount "sorted" 1 1 _) (wpAny_pure ?_)
  refine wpAny_bind (PySem.W.kdu_collect (A := X.A.in1) (PySem.W.kdl_dict (knd := strKind X.prog X.w) (ep := n) k.low) (I.ok.hd hcalm) da (by rw [hlv, sizeLine_eq]; omega) fun h' tk acc hk hacc => ?_)
  have al : acc.toList.length = (kvs.map (·.1)).length := by rw [Array.length_toList, hacc.1, hlv]
  have sa : StrsAre acc.toList (kvs.map (·.1)) := strsAre_at al fun j v e => by
    obtain ⟨z, x, e1, e2⟩ := hacc.2 j v (by rw [← Array.getElem?_toList]; exact e)
    obtain ⟨t, ev⟩ := Value.isStrOf_shape (x := z) (v := v) e2
    refine ⟨z, t, ?_, ev⟩
    have e3 : (((kvs.map (·.1)).zip (es.toList.map (·.val))).map (·.1))[j]? = some z := by rw [List.getElem?_map, e1]; rfl
    rw [List.map_fst_zip hle] at e3
    exact e3
  have I1 : Inv X pins σ H { s with heap := h', toks := tk } := I.kept hk
  refine wpAny_bind (wpAny_newList ?_ (by rw [al, sizeLine_eq]; omega))
  have at0 : (h'.push (seqObj "list" acc.toList.toArray 0)).get? h'.objs.size = some (seqObj "list" acc.toList.toArray 0) := Heap.get?_push_size _ rfl
  show wpAny _ _ _ _ _ { s with heap := h'.push (seqObj "list" acc.toList.toArray 0), toks := tk }
  refine wpAny_bind (wpAny_holding (wpAny_call_entry PyProof.Rows.slot_list_sort ⟨_, at0, rfl⟩ PyProof.Rows.entry_list_sort
    (list_sort_treeK strKind_oneLt (s := { s with heap := h'.push (seqObj "list" acc.toList.toArray 0), toks := tk }) at0 sa.keysOf (fun v₁ v₂ rest e => keyKind_strs (by rw [← e]; exact sa)) (by rw [al]; exact h64) fun st' hp hs => ⟨_, rfl, ?_⟩)
    (PyProof.Rows.args_list_sort _)))
  obtain ⟨ys, g1, g2, g3⟩ := sorted_out_str sa hp hs
  cases sortS_uniq g2 g3
  obtain ⟨e', he'⟩ := PyProof.Rows.sortedHeap_at (vs := acc.toList) (out := (arrOf st').map (·.2)) at0
  have hlen : ((sortS (kvs.map (·.1))).map V.str).length ≤ sizeLine := by rw [List.length_map, g2.length_eq, sizeLine_eq]; omega
  refine wpAny_pure ⟨_, rfl, .ref h'.objs.size, upd H h'.objs.size (.lst ((sortS (kvs.map (·.1))).map V.str)), I1.laid (t' := tk) (fun b u e => ?_) (Nat.le_refl _)
    (show ObjOk X.prog X.w _ _ _ (.lst ((sortS (kvs.map (·.1))).map V.str)) from ⟨hlen, ((arrOf st').map (·.2)).toList, e', vals_of_strs g1, by rw [Array.toArray_toList]; exact he'⟩), rfl, q _ (I1.hok.fresh (Nat.le_refl _))⟩
  have lt : b < h'.objs.size := Heap.lt_size e
  rw [PyProof.Rows.sortedHeap_old (Nat.ne_of_lt lt) (by rw [Heap.size_push]; exact Nat.lt_succ_of_lt lt)]
  exact Heap.get?_push_of_some _ e
end
end DD

set_option Elab.async false
set_option linter.all false
set_option maxRecDepth 100000
set_option maxHeartbeats 4000000
namespace DD
open PySem PySem.Spec PyProof.Rows L2

/-! ### a comprehension of two clauses -/
def noOwn (ρ : En) : Bool := ρ.all fun s => match s with
  | some (.own _) => false
  | _ => true
theorem noOwn_get {ρ : En} (h : noOwn ρ = true) {i : Nat} {ds : List D} (e : ρ[i]? = some (some (Sl.own ds))) : False := by
  have := List.all_eq_true.mp h _ (List.mem_of_getElem? e)
  cases this
def coll2 (g : D → En → Option En) (c : En → Option Bool) (it1 : En → Option (List D)) (g1 : D → En → Option En) (c1 : En → Option Bool) (e : En → Option D) (vs1 : List Nat) (ρ : En) : List D → Option (List D)
  | [] => some []
  | d :: ds => (g d ρ).bind fun ρ1 => (c ρ1).bind fun b => if b = true then
      (if noOwn ρ1 = true then (it1 ρ1).bind fun ds1 => (coll g1 c1 e (wipeM ρ1 vs1) ds1).bind fun r1 => (coll2 g c it1 g1 c1 e vs1 ρ ds).map fun r => r1 ++ r else none)
    else coll2 g c it1 g1 c1 e vs1 ρ ds
def mLc2 (it : En → Option (List D)) (g : D → En → Option En) (c : En → Option Bool) (it1 : En → Option (List D)) (g1 : D → En → Option En) (c1 : En → Option Bool) (e : En → Option D) (vs vs1 : List Nat) : En → Option (List D) :=
  fun ρ => (it ρ).bind fun ds => (coll2 g c it1 g1 c1 e vs1 (wipeM ρ vs) ds).bind fun r => if r.length ≤ cap then some r else none
section
variable {K : PySem.W.Frag}
theorem Good.reput {H0 H : Hp} {T0 T : Ov} {σ : L2.St} {ρ : En} {p : Addr} {xs ys : List V} (G : Good K H0 T0 σ ρ H (put T p xs)) (no : noOwn ρ = true) (hT : T p = none) (hT0 : T0 p = none) (hH : H p = none) : Good K H0 T0 σ ρ H (put T p ys) := by
  refine ⟨G.len, G.val, fun i ds h => (noOwn_get no h).elim, fun i j ds es q h => (noOwn_get no h).elim, fun a zs e => ?_, fun a zs e => ?_, G.ex⟩
  · by_cases z : a = p
    · rw [z]; exact hH
    · rw [put_ne z] at e
      exact G.dis a zs (by rw [put_ne z]; exact e)
  · have z : a ≠ p := fun z => by rw [z, hT0] at e; cases e
    have := G.ext a zs e
    rw [put_ne z] at this ⊢
    exact this
theorem fl_lc2 {wi wi1 : TI} {g g1 : TG} {tt tt1 : TT} {te : TE} {vs vs1 : List Nat} {mi mi1 : En → Option (List D)} {mg mg1 : D → En → Option En} {mc mc1 : En → Option Bool} {me : En → Option D}
    (hi : IT K wi mi) (hg : TGm K vs g mg) (ht : TTm K tt mc) (hi1 : IT K wi1 mi1) (hg1 : TGm K vs1 g1 mg1) (ht1 : TTm K tt1 mc1) (he : ET K te me) : FL K (tLc2 wi g tt wi1 g1 tt1 te vs vs1) (mLc2 mi mg mc mi1 mg1 mc1 me vs vs1) := by
  refine ⟨fun {H0 T0 σ ρ H T out} G h Q q => ?_⟩
  obtain ⟨ds, hd, h⟩ := bind_some h
  obtain ⟨out0, h, hz⟩ := bind_some h
  split at hz
  · rename_i hz0
    cases hz
    refine hi.run G hd _ fun J Hm s1 d1 w => ?_
    intro Dl hD
    obtain ⟨nT, nH⟩ := ov_free hD
    have nT0 : T0 Dl = none := by
      cases e : T0 Dl with
      | none => rfl
      | some zs => rw [G.ext Dl zs e] at nT; cases nT
    have fr : ∀ {H' : Hp} {acc : List V}, Dis H' (put T Dl acc) → Dis H' T ∧ H' Dl = none := fun {H' acc} d => ⟨fun a xs e => by
      by_cases z : a = Dl
      · rw [z, nT] at e; cases e
      · exact d a xs (by rw [put_ne z]; exact e), d Dl acc put_same⟩
    refine ⟨fun i m Hc => i ≤ ds.length ∧ m = ds.length - i ∧ ∃ H1 acc as r, Hc = ov H1 (put T Dl acc) ∧ Same Hm H1 ∧ Dis H1 T ∧ H1 Dl = none ∧ DpAll K H1 acc as ∧ coll2 mg mc mi1 mg1 mc1 me vs1 (wipeM ρ vs) (ds.drop i) = some r ∧ out = as ++ r,
      ⟨ds.length, Nat.zero_le _, rfl, Hm, [], [], out, by rw [upd_put], Same.refl Hm, d1, nH, .nil, h, rfl⟩, ?_⟩
    rintro i m Hc ⟨hil, rfl, H1, acc, as, r, rfl, sm, dis, nD, ga, hc, eo⟩
    have dput : Dis H1 (put T Dl acc) := dis_put dis nD
    by_cases hlt : i < ds.length
    · have hge : ds[i]? = some ds[i] := List.getElem?_eq_getElem hlt
      rw [List.drop_eq_getElem_cons hlt] at hc
      obtain ⟨ρ2, h2, hc⟩ := bind_some hc
      obtain ⟨b, hb, hc⟩ := bind_some hc
      refine .inr ⟨w.go i sm dput hlt, fun Hc' => ∃ H1 acc as r, Hc' = ov H1 (put T Dl acc) ∧ Same Hm H1 ∧ Dis H1 T ∧ H1 Dl = none ∧ DpAll K H1 acc as ∧ coll2 mg mc mi1 mg1 mc1 me vs1 (wipeM ρ vs) (ds.drop (i + 1)) = some r ∧ out = as ++ r,
        fun Hc' ⟨H1, acc, as, r, a1, a2, a3, a4, a5, a7, a8⟩ => ⟨ds.length - (i + 1), by omega, by omega, rfl, H1, acc, as, r, a1, a2, a3, a4, a5, a7, a8⟩, fun x Hc' y => ?_⟩
      obtain ⟨H2, rfl, s2, d2, p2⟩ := w.yld i sm dput hge y
      have G2 : Good K H0 T0 (L2.wipe σ vs) (wipeM ρ vs) H2 (put T Dl acc) := (((G.mono s1 d1).wipe vs).more hD).mono (sm.trans s2) d2
      refine hg.run G2 p2 h2 _ fun σ3 H3 G3 s3 w3 => ⟨by rw [w3, wipe_wipe], ?_⟩
      refine ht.run G3 hb _ fun H4 s4 d4 => ?_
      have G4 := G3.mono s4 d4
      cases b with
      | true =>
        rw [if_pos rfl] at hc ⊢
        split at hc
        · rename_i no
          obtain ⟨ds1, hd1, hc⟩ := bind_some hc
          obtain ⟨r1, hr1, hc⟩ := bind_some hc
          obtain ⟨r2, hr2, hc⟩ := map_some hc
          subst hc
          refine hi1.run G4 hd1 _ fun J1 Hn s5 d5 w1 => ?_
          have G5 := G4.mono s5 d5
          have sB : Same H1 Hn := s2.trans ((s3.trans s4).trans s5)
          obtain ⟨dT5, dn5⟩ := fr d5
          refine ⟨fun j k Hc => j ≤ ds1.length ∧ k = ds1.length - j ∧ ∃ H1 acc as r, Hc = ov H1 (put T Dl acc) ∧ Same Hn H1 ∧ Dis H1 T ∧ H1 Dl = none ∧ DpAll K H1 acc as ∧ coll mg1 mc1 me (wipeM ρ2 vs1) (ds1.drop j) = some r ∧ out = as ++ (r ++ r2),
            ⟨ds1.length, Nat.zero_le _, rfl, Hn, acc, as, r1, rfl, Same.refl Hn, dT5, dn5, dpa_mono sB ga, hr1, eo⟩, ?_⟩
          rintro j k Hc ⟨hjl, rfl, K1, ac, bs, rr, rfl, sk, dk, nk, gk, hk, ek⟩
          have dputk : Dis K1 (put T Dl ac) := dis_put dk nk
          by_cases hjt : j < ds1.length
          · have hje : ds1[j]? = some ds1[j] := List.getElem?_eq_getElem hjt
            rw [List.drop_eq_getElem_cons hjt] at hk
            obtain ⟨ρ6, h6, hk⟩ := bind_some hk
            obtain ⟨b1, hb1, hk⟩ := bind_some hk
            refine .inr ⟨w1.go j sk dputk hjt, fun Hc' => ∃ H1 acc as r, Hc' = ov H1 (put T Dl acc) ∧ Same Hn H1 ∧ Dis H1 T ∧ H1 Dl = none ∧ DpAll K H1 acc as ∧ coll mg1 mc1 me (wipeM ρ2 vs1) (ds1.drop (j + 1)) = some r ∧ out = as ++ (r ++ r2),
              fun Hc' ⟨H1, acc, as, r, a1, a2, a3, a4, a5, a7, a8⟩ => ⟨ds1.length - (j + 1), by omega, by omega, rfl, H1, acc, as, r, a1, a2, a3, a4, a5, a7, a8⟩, fun x6 Hc6 y6 => ?_⟩
            obtain ⟨K2, rfl, s6, d6, p6⟩ := w1.yld j sk dputk hje y6
            have G6 : Good K H0 T0 (L2.wipe σ3 vs1) (wipeM ρ2 vs1) K2 (put T Dl ac) := ((((G5.reput no nT nT0 dn5 (ys := ac)).mono sk dputk).mono s6 d6).wipe vs1)
            refine hg1.run G6 p6 h6 _ fun σ7 K3 G7 s7 w7 => ⟨by rw [w7, wipe_wipe], ?_⟩
            refine ht1.run G7 hb1 _ fun K4 s8 d8 => ?_
            have G8 := G7.mono s8 d8
            cases b1 with
            | true =>
              rw [if_pos rfl] at hk ⊢
              obtain ⟨z, hz2, hk⟩ := bind_some hk
              obtain ⟨r', hr', hk⟩ := map_some hk
              refine he.run G8 hz2 _ fun v K5 s9 d9 p9 => ?_
              obtain ⟨dT, dn⟩ := fr d9
              have sQ : Same K1 K5 := s6.trans ((s7.trans s8).trans s9)
              refine ⟨ac, ov_own put_same, ?_, K5, ac ++ [v], bs ++ [z], r', by rw [upd_put, put_put], sk.trans sQ, dT, dn, dpa_snoc (dpa_mono sQ gk) p9, hr', ?_⟩
              · refine cap_lt (Nat.le_trans ?_ hz0)
                rw [dpa_len gk, ek, List.length_append]
                omega
              · rw [ek, ← hk, List.append_assoc]
                rfl
            | false =>
              rw [if_neg Bool.false_ne_true] at hk ⊢
              obtain ⟨dT, dn⟩ := fr d8
              have sQ : Same K1 K4 := s6.trans (s7.trans s8)
              exact ⟨K4, ac, bs, rr, rfl, sk.trans sQ, dT, dn, dpa_mono sQ gk, hk, ek⟩
          · have e : j = ds1.length := by omega
            subst e
            rw [List.drop_length] at hk
            cases hk
            refine .inl ⟨w1.stop sk dputk, K1, ac, bs, r2, rfl, ?_, dk, nk, gk, hr2, ?_⟩
            · exact sm.trans (sB.trans sk)
            · rw [ek]; rfl
        · cases hc
      | false =>
        rw [if_neg Bool.false_ne_true] at hc ⊢
        obtain ⟨dT, dn⟩ := fr d4
        exact ⟨H4, acc, as, r, rfl, sm.trans (s2.trans (s3.trans s4)), dT, dn, dpa_mono (s2.trans (s3.trans s4)) ga, hc, eo⟩
    · have e : i = ds.length := by omega
      subst e
      rw [List.drop_length] at hc
      cases hc
      rw [List.append_nil] at eo
      subst eo
      refine .inl ⟨w.stop sm dput, ?_⟩
      rw [← upd_put]
      have hfree : ov H1 T Dl = none := by rw [ov_none nT]; exact nD
      exact q Dl acc H1 (s1.trans sm) dis hfree ga
  · cases hz
end
end DD

set_option Elab.async false
set_option linter.all false
set_option maxRecDepth 100000
set_option maxHeartbeats 4000000
namespace DD
open PySem PySem.Spec PyProof.Rows L2
/-! ### a dict of the top, from what the top's heap shows -/
def keyS (e : DictEntry) : Option Str := match e.key with
  | .str x _ => some x
  | _ => none
def Ents (K : PySem.W.Frag) : List (Option Str × Value) → Option (List (Str × D))
  | [] => some []
  | (k, v) :: r => match k, deV K 3 v, Ents K r with
    | some x, some d, some ds => some ((x, d) :: ds)
    | _, _, _ => none
theorem ents_nil {K : PySem.W.Frag} : Ents K [] = some [] := rfl
theorem ents_cons {K : PySem.W.Frag} {k : Str} {v : Value} {d : D} {l : List (Option Str × Value)} {ds : List (Str × D)} (h : deV K 3 v = some d) (r : Ents K l = some ds) : Ents K ((some k, v) :: l) = some ((k, d) :: ds) := by
  unfold Ents
  rw [h, r]
theorem deV_tup {K : PySem.W.Frag} {a : Addr} {od : Option Addr} {its : Array Value} {n : Nat} {sl : Array (Option Value)} {ds : List D} (t : K.lookup a = some ⟨.type "tuple", od, .seq its n, sl⟩) (z : its.size ≤ 1000) (u : deVs (deV K 2) its.toList = some ds) : deV K 3 (.ref a) = some (.tuple ds) := by
  unfold deV
  rw [t]
  show (match decide ("tuple" = "tuple") && decide (its.size ≤ 1000) with
      | true => (deVs (deV K 2) its.toList).map PyData.tuple
      | false => none) = _
  rw [decide_eq_true z, u]
  rfl
theorem dicD_ents {K : PySem.W.Frag} : ∀ l : List DictEntry, dicD K l = Ents K (l.map fun e => (keyS e, e.val))
  | [] => rfl
  | e :: r => by
    unfold dicD
    show _ = Ents K ((keyS e, e.val) :: r.map fun e => (keyS e, e.val))
    unfold Ents
    rw [dicD_ents r]
    have : keyS e = (match e.key with
      | .str x _ => some x
      | _ => none) := rfl
    rw [this]
    cases e.key <;> cases deV K 3 e.val <;> cases Ents K (r.map fun e => (keyS e, e.val)) <;> rfl
theorem keys_lit {P : Params} : ∀ {l : List DictEntry} {L : List (Option Str × Value)} {K : PySem.W.Frag} {kvs : List (Str × D)}, PySem.W.KeysLit P l → l.map (fun e => (keyS e, e.val)) = L → Ents K L = some kvs → l.map He.keyOf = He.keysIn P (kvs.map (·.1))
  | [], L, K, kvs, _, h, g => by
    subst h
    cases g
    rfl
  | e :: r, L, K, kvs, y, h, g => by
    subst h
    obtain ⟨⟨x, t, e1, e2⟩, y2⟩ := y
    have g' : (match keyS e, deV K 3 e.val, Ents K (r.map fun e => (keyS e, e.val)) with
      | some x, some d, some ds => some ((x, d) :: ds)
      | _, _, _ => none) = some kvs := g
    have ke : keyS e = some x := by unfold keyS; rw [e1]
    rw [ke] at g'
    split at g'
    · rename_i x2 d ds q1 q2 q3
      cases q1
      cases g'
      have ih := keys_lit (K := K) y2 rfl q3
      show He.keyOf e :: r.map He.keyOf = some (x, PyData.keyHash P x) :: He.keysIn P (ds.map (·.1))
      rw [ih]
      have : He.keyOf e = some (x, PyData.keyHash P x) := by
        unfold He.keyOf
        rw [e1, e2]
      rw [this]
    · cases g'
theorem dictC_mk {K : PySem.W.Frag} {w : World} {a : Addr} {es : Array DictEntry} {n : Nat} {L : List (Option Str × Value)} {kvs : List (Str × D)} (l : K.lookup a = some ⟨.type "dict", none, .dict es n, #[]⟩) (y : PySem.W.KeysLit w.params es.toList) (z : (a == sysModules) = false)
    (v : es.toList.map (fun e => (keyS e, e.val)) = L) (g : Ents K L = some kvs) : DictC K w a kvs := by
  have kl := keys_lit y v g
  refine dictC_of (w := w) ?_ ?_
  · unfold He.dicW
    rw [l]
    show (match decide ("dict" = "dict") && ((#[] : Array (Option Value)).isEmpty && !(a == sysModules)) with
      | true => some (es.toList.map He.keyOf)
      | false => none) = _
    rw [z, kl]
    rfl
  · unfold dicAt
    rw [l]
    show dicD K es.toList = _
    rw [dicD_ents, v, g]
end DD

set_option Elab.async false
set_option linter.all false
namespace DD
open PySem PySem.Spec PyProof.Rows L2
/-! ### a list + a list, both of any form -/
section
variable {K : PySem.W.Frag}
def mCatE (a b : En → Option D) : En → Option (List D) := fun ρ => (a ρ).bind fun x => (b ρ).bind fun y => match x, y with
  | .list xs, .list ys => if xs.length + ys.length ≤ cap then some (xs ++ ys) else none
  | _, _ => none
theorem fl_catE {ta tb : TE} {ma mb : En → Option D} (ha : ET K ta ma) (hb : ET K tb mb) : FL K (tOp (rCatX K) ta tb) (mCatE ma mb) := by
  refine ⟨fun {H0 T0 σ ρ H T out} G h Q q => ?_⟩
  obtain ⟨x, hx, h⟩ := bind_some h
  obtain ⟨y, hy, h⟩ := bind_some h
  refine ha.run G hx _ fun v H1 s1 d1 p1 => hb.run (G.mono s1 d1) hy _ fun v2 H2 s2 d2 p2 => ?_
  split at h
  · rename_i xs ys
    split at h
    · rename_i hz
      cases h
      obtain ⟨a, us, rfl, hs, gu⟩ := dp_lst (dp_mono s2 p1)
      obtain ⟨b, ws, rfl, hs2, gw⟩ := dp_lst p2
      exact ⟨a, b, us, ws, rfl, rfl, sql_ov d2 hs, sql_ov d2 hs2, by rw [dpa_len gu, dpa_len gw]; exact cap_line hz, fun p np => q p _ H2 (s1.trans s2) d2 np (dpa_append gu gw)⟩
    · cases h
  · cases h
end
end DD

set_option Elab.async false
set_option linter.all false
set_option maxRecDepth 100000
set_option maxHeartbeats 4000000
namespace DD
open PySem PySem.Spec PyProof.Rows L2
def topS (i : Nat) : Stmt := PySem.Challenge.pw_batchyard_k02_whole_codes.main.body.getD i (.Pass ⟨0, 0, 0, 0⟩)
abbrev s_is_whole : Stmt := topS 7
abbrev N_is_whole : List Str := ["thing", "low", "high"]
theorem sc_is_whole : FnScope N_is_whole ["thing", "low", "high"] (defScope s_is_whole) := ⟨rfl, rfl, rfl, by decide +kernel, rfl, by decide +kernel, by decide +kernel⟩
abbrev s_is_word : Stmt := topS 8
abbrev N_is_word : List Str := ["thing"]
theorem sc_is_word : FnScope N_is_word ["thing"] (defScope s_is_word) := ⟨rfl, rfl, rfl, by decide +kernel, rfl, by decide +kernel, by decide +kernel⟩
abbrev s_is_record : Stmt := topS 9
abbrev N_is_record : List Str := ["thing", "part"]
theorem sc_is_record : FnScope N_is_record ["thing"] (defScope s_is_record) := ⟨rfl, rfl, rfl, by decide +kernel, rfl, by decide +kernel, by decide +kernel⟩
abbrev s_are_records : Stmt := topS 10
abbrev N_are_records : List Str := ["thing", "part"]
theorem sc_are_records : FnScope N_are_records ["thing"] (defScope s_are_records) := ⟨rfl, rfl, rfl, by decide +kernel, rfl, by decide +kernel, by decide +kernel⟩
abbrev s_is_code : Stmt := topS 16
abbrev N_is_code : List Str := ["thing", "part"]
theorem sc_is_code : FnScope N_is_code ["thing"] (defScope s_is_code) := ⟨rfl, rfl, rfl, by decide +kernel, rfl, by decide +kernel, by decide +kernel⟩
abbrev s_demand_code : Stmt := topS 17
abbrev N_demand_code : List Str := ["thing"]
theorem sc_demand_code : FnScope N_demand_code ["thing"] (defScope s_demand_code) := ⟨rfl, rfl, rfl, by decide +kernel, rfl, by decide +kernel, by decide +kernel⟩
abbrev s_slots_of : Stmt := topS 18
abbrev N_slots_of : List Str := ["code", "read", "filled", "step", "card"]
theorem sc_slots_of : FnScope N_slots_of ["code"] (defScope s_slots_of) := ⟨rfl, rfl, rfl, by decide +kernel, rfl, by decide +kernel, by decide +kernel⟩
abbrev s_code_records : Stmt := topS 19
abbrev N_code_records : List Str := ["code", "step"]
theorem sc_code_records : FnScope N_code_records ["code"] (defScope s_code_records) := ⟨rfl, rfl, rfl, by decide +kernel, rfl, by decide +kernel, by decide +kernel⟩
abbrev s_code_in : Stmt := topS 20
abbrev N_code_in : List Str := ["records", "code", "record"]
theorem sc_code_in : FnScope N_code_in ["records"] (defScope s_code_in) := ⟨rfl, rfl, rfl, by decide +kernel, rfl, by decide +kernel, by decide +kernel⟩
abbrev s__is_step : Stmt := topS 21
abbrev N__is_step : List Str := ["thing", "many", "word", "parts", "kinds", "part", "kind"]
theorem sc__is_step : FnScope N__is_step ["thing", "many"] (defScope s__is_step) := ⟨rfl, rfl, rfl, by decide +kernel, rfl, by decide +kernel, by decide +kernel⟩
abbrev s__is_part : Stmt := topS 22
abbrev N__is_part : List Str := ["thing", "kind", "many"]
theorem sc__is_part : FnScope N__is_part ["thing", "kind", "many"] (defScope s__is_part) := ⟨rfl, rfl, rfl, by decide +kernel, rfl, by decide +kernel, by decide +kernel⟩
abbrev s__is_row : Stmt := topS 23
abbrev N__is_row : List Str := ["thing", "part"]
theorem sc__is_row : FnScope N__is_row ["thing"] (defScope s__is_row) := ⟨rfl, rfl, rfl, by decide +kernel, rfl, by decide +kernel, by decide +kernel⟩
abbrev s__cards_of : Stmt := topS 24
abbrev N__cards_of : List Str := ["step", "word", "parts", "part", "kind"]
theorem sc__cards_of : FnScope N__cards_of ["step"] (defScope s__cards_of) := ⟨rfl, rfl, rfl, by decide +kernel, rfl, by decide +kernel, by decide +kernel⟩
abbrev s__written_step : Stmt := topS 25
abbrev N__written_step : List Str := ["step", "word", "parts", "written", "part"]
theorem sc__written_step : FnScope N__written_step ["step"] (defScope s__written_step) := ⟨rfl, rfl, rfl, by decide +kernel, rfl, by decide +kernel, by decide +kernel⟩
abbrev s__read_step : Stmt := topS 26
abbrev N__read_step : List Str := ["record", "number", "parts", "words", "word", "kinds", "ahead", "front", "row"]
theorem sc__read_step : FnScope N__read_step ["record"] (defScope s__read_step) := ⟨rfl, rfl, rfl, by decide +kernel, rfl, by decide +kernel, by decide +kernel⟩
abbrev s__law_pick : Stmt := topS 28
abbrev N__law_pick : List Str := ["_law_script", "_law_k", "_law_many", "_law_cell", "_law_rest", "_law_turn", "_law_drawn"]
theorem sc__law_pick : FnScope N__law_pick ["_law_script", "_law_k", "_law_many"] (defScope s__law_pick) := ⟨rfl, rfl, rfl, by decide +kernel, rfl, by decide +kernel, by decide +kernel⟩
abbrev s__law_step_code : Stmt := topS 29
abbrev N__law_step_code : List Str := ["_law_script", "_law_at", "_law_many", "_law_turn", "_law_r", "_law_s", "_law_t", "_law_p", "_law_word", "_law_some", "_law_k"]
theorem sc__law_step_code : FnScope N__law_step_code ["_law_script", "_law_at", "_law_many"] (defScope s__law_step_code) := ⟨rfl, rfl, rfl, by decide +kernel, rfl, by decide +kernel, by decide +kernel⟩
abbrev s__law_code : Stmt := topS 30
abbrev N__law_code : List Str := ["_law_script", "_law_at", "_law_many", "_law_made", "_law_k"]
theorem sc__law_code : FnScope N__law_code ["_law_script", "_law_at"] (defScope s__law_code) := ⟨rfl, rfl, rfl, by decide +kernel, rfl, by decide +kernel, by decide +kernel⟩
abbrev s_law : Stmt := topS 31
abbrev N_law : List Str := ["_law_script", "_law_code_here", "_law_words", "_law_rows", "_law_step", "_law_row", "_law_part", "_law_told", "_law_takes", "_law_puts", "_law_k", "_law_wrong", "_law_other", "_law_one"]
theorem sc_law : FnScope N_law ["_law_script"] (defScope s_law) := ⟨rfl, rfl, rfl, by decide +kernel, rfl, by decide +kernel, by decide +kernel⟩
def kv_PARTS : List (Str × D) := [("add", (.tuple [(.str ("r" : Str)), (.str ("r" : Str)), (.str ("r" : Str))])), ("copy", (.tuple [(.str ("r" : Str)), (.str ("r" : Str))])), ("div", (.tuple [(.str ("r" : Str)), (.str ("r" : Str)), (.str ("r" : Str))])), ("end", (.tuple [(.str ("r" : Str))])), ("field", (.tuple [(.str ("r" : Str)), (.str ("f" : Str)), (.str ("k" : Str))])), ("go", (.tuple [(.str ("p" : Str))])), ("if", (.tuple [(.str ("r" : Str)), (.str ("p" : Str))])), ("less", (.tuple [(.str ("r" : Str)), (.str ("r" : Str)), (.str ("r" : Str))])), ("line", (.tuple [(.str ("row" : Str))])), ("mark", (.tuple [])), ("mod", (.tuple [(.str ("r" : Str)), (.str ("r" : Str)), (.str ("r" : Str))])), ("mul", (.tuple [(.str ("r" : Str)), (.str ("r" : Str)), (.str ("r" : Str))])), ("over", (.tuple [(.str ("f" : Str)), (.str ("p" : Str))])), ("put", (.tuple [(.str ("f" : Str)), (.str ("row" : Str))])), ("same", (.tuple [(.str ("r" : Str)), (.str ("r" : Str)), (.str ("r" : Str))])), ("set", (.tuple [(.str ("r" : Str)), (.str ("n" : Str))])), ("sub", (.tuple [(.str ("r" : Str)), (.str ("r" : Str)), (.str ("r" : Str))])), ("take", (.tuple [(.str ("f" : Str))]))]
def kv_GREATEST : List (Str × D) := [("r", (.int 7)), ("f", (.int 5)), ("k", (.int 7))]
/-! ### mirrors -/
def b_is_whole : En → Option Fl :=
  (sRet (mAndV (mUn (dIsi "int") (mVar 0)) (mAndV (mNotV (mUn (dIsi "bool") (mVar 0))) (mChain dLe dLe (mVar 1) (mVar 0) (mVar 2)))))
def m_is_whole (ds : List D) : Option D := mDef 3 b_is_whole ds
def b_is_word : En → Option Fl :=
  (sRet (mCall (lim 3 m_is_whole) (mCons (mVar 0) (mCons (mC (.int 0)) (mCons (mC (.int 9999)) mNil)))))
def m_is_word (ds : List D) : Option D := mDef 1 b_is_word ds
def b_is_record : En → Option Fl :=
  (sSeq (sIf (mOr (mNot (mTru (mUn (dIsi "tuple") (mVar 0)))) (mNot (mTest (mChain dLe dLe (mC (.int 1)) (mCall dLen (mCons (mVar 0) mNil)) (mC (.int 8))))))
  (sRet (mC (.bool false)))
  sNext)
  (sRet (mCall dAll (mCons (mList (mLc (mIter (mVar 0)) (gSet 1) mYes (mCall (lim 1 m_is_word) (mCons (mVar 1) mNil)) [1])) mNil))))
def m_is_record (ds : List D) : Option D := mDef 2 b_is_record ds
def b_are_records : En → Option Fl :=
  (sSeq (sIf (mOr (mNot (mTru (mUn (dIsi "tuple") (mVar 0)))) (mTest (mOp dGt (mCall dLen (mCons (mVar 0) mNil)) (mC (.int 30)))))
  (sRet (mC (.bool false)))
  sNext)
  (sRet (mCall dAll (mCons (mList (mLc (mIter (mVar 0)) (gSet 1) mYes (mCall (lim 1 m_is_record) (mCons (mVar 1) mNil)) [1])) mNil))))
def m_are_records (ds : List D) : Option D := mDef 2 b_are_records ds
def b__is_row : En → Option Fl :=
  (sSeq (sIf (mOr (mNot (mTru (mUn (dIsi "tuple") (mVar 0)))) (mNot (mTest (mChain dLe dLe (mC (.int 1)) (mCall dLen (mCons (mVar 0) mNil)) (mC (.int 6))))))
  (sRet (mC (.bool false)))
  sNext)
  (sRet (mCall dAll (mCons (mList (mLc (mIter (mVar 0)) (gSet 1) mYes (mCall (lim 3 m_is_whole) (mCons (mVar 1) (mCons (mC (.int 0)) (mCons (mUn (dGetK kv_GREATEST) (mC (.str ("r" : Str)))) mNil)))) [1])) mNil))))
def m__is_row (ds : List D) : Option D := mDef 2 b__is_row ds
def b__is_part : En → Option Fl :=
  (sSeq (sIf (mTest (mOp dEq (mVar 1) (mC (.str ("row" : Str)))))
  (sRet (mCall (lim 1 m__is_row) (mCons (mVar 0) mNil)))
  sNext)
  (sSeq (sIf (mTest (mOp dEq (mVar 1) (mC (.str ("n" : Str)))))
  (sRet (mCall (lim 1 m_is_word) (mCons (mVar 0) mNil)))
  sNext)
  (sSeq (sIf (mTest (mOp dEq (mVar 1) (mC (.str ("p" : Str)))))
  (sRet (mCall (lim 3 m_is_whole) (mCons (mVar 0) (mCons (mC (.int 0)) (mCons (mOp dSub (mVar 2) (mC (.int 1))) mNil)))))
  sNext)
  (sRet (mCall (lim 3 m_is_whole) (mCons (mVar 0) (mCons (mC (.int 0)) (mCons (mUn (dGetK kv_GREATEST) (mVar 1)) mNil))))))))
def m__is_part (ds : List D) : Option D := mDef 3 b__is_part ds
def b__is_step : En → Option Fl :=
  (sSeq (sIf (mOr (mNot (mTru (mUn (dIsi "tuple") (mVar 0)))) (mNot (mTru (mVar 0))))
  (sRet (mC (.bool false)))
  sNext)
  (sSeq (sAsg (mVar 0) (gHeadRest (gSet 2) (gSet 3)))
  (sSeq (sIf (mOr (mNot (mTru (mUn (dIsi "str") (mVar 2)))) (mTest (mUn (dNotInK kv_PARTS) (mVar 2))))
  (sRet (mC (.bool false)))
  sNext)
  (sSeq (sAsg (mUn (dGetK kv_PARTS) (mVar 2)) (gSet 4))
  (sSeq (sIf (mTest (mOp dNe (mCall dLen (mCons (mVar 3) mNil)) (mCall dLen (mCons (mVar 4) mNil))))
  (sRet (mC (.bool false)))
  sNext)
  (sRet (mCall dAll (mCons (mList (mLc (mZip (mCons (mVar 3) (mCons (mVar 4) mNil))) (gTupM 2 (gConsM (gSet 5) (gConsM (gSet 6) gNilM))) mYes (mCall (lim 3 m__is_part) (mCons (mVar 5) (mCons (mVar 6) (mCons (mVar 1) mNil)))) [5, 6])) mNil))))))))
def m__is_step (ds : List D) : Option D := mDef 7 b__is_step ds
def b_is_code : En → Option Fl :=
  (sSeq (sIf (mOr (mNot (mTru (mUn (dIsi "tuple") (mVar 0)))) (mNot (mTest (mChain dLe dLe (mC (.int 1)) (mCall dLen (mCons (mVar 0) mNil)) (mC (.int 30))))))
  (sRet (mC (.bool false)))
  sNext)
  (sRet (mCall dAll (mCons (mList (mLc (mIter (mVar 0)) (gSet 1) mYes (mCall (lim 2 m__is_step) (mCons (mVar 1) (mCons (mCall dLen (mCons (mVar 0) mNil)) mNil))) [1])) mNil))))
def m_is_code (ds : List D) : Option D := mDef 2 b_is_code ds
def b_demand_code : En → Option Fl :=
  (sIf (mNot (mTru (mCall (lim 1 m_is_code) (mCons (mVar 0) mNil))))
  sStop
  sNext)
def m_demand_code (ds : List D) : Option D := mDef 1 b_demand_code ds
def b__cards_of : En → Option Fl :=
  (sSeq (sAsg (mVar 0) (gHeadRest (gSet 1) (gSet 2)))
  (sRet (mList (mLc (mZip (mCons (mVar 2) (mCons (mUn (dGetK kv_PARTS) (mVar 1)) mNil))) (gTupM 2 (gConsM (gSet 3) (gConsM (gSet 4) gNilM))) (mTest (mOp dEq (mVar 4) (mC (.str ("f" : Str))))) (mVar 3) [3, 4]))))
def m__cards_of (ds : List D) : Option D := mDef 5 b__cards_of ds
def b_slots_of : En → Option Fl :=
  (sSeq (sDrop (mCall (lim 1 m_demand_code) (mCons (mVar 0) mNil)))
  (sSeq (sAsg (mList (mLc2 (mIter (mVar 0)) (gSet 3) (mTest (mOp dNe (mOp dIx (mVar 3) (mC (.int 0))) (mC (.str ("put" : Str))))) (mIter (mCall (lim 1 m__cards_of) (mCons (mVar 3) mNil))) (gSet 4) mYes (mVar 4) [3, 4] [4])) (gSet 1))
  (sSeq (sAsg (mList (mLc2 (mIter (mVar 0)) (gSet 3) (mTest (mOp dEq (mOp dIx (mVar 3) (mC (.int 0))) (mC (.str ("put" : Str))))) (mIter (mCall (lim 1 m__cards_of) (mCons (mVar 3) mNil))) (gSet 4) mYes (mVar 4) [3, 4] [4])) (gSet 2))
  (sRet (mTup (mCons (mCall dTupOf (mCons (mList (mSortedSet (mVar 1))) mNil)) (mCons (mCall dTupOf (mCons (mList (mSortedSet (mVar 2))) mNil)) mNil)))))))
def m_slots_of (ds : List D) : Option D := mDef 5 b_slots_of ds
def b__written_step : En → Option Fl :=
  (sSeq (sAsg (mVar 0) (gHeadRest (gSet 1) (gSet 2)))
  (sSeq (sOwn 3 (mLst (mCons (mOp dIndex (mList (mSortedK (kv_PARTS.map (·.1)))) (mVar 1)) mNil)))
  (sSeq (sFor (mIter (mVar 2)) (gSet 4)
  (sIf (mTru (mUn (dIsi "tuple") (mVar 4)))
  (sExtendA 3 (mVar 4))
  (sAppend 3 (mVar 4))))
  (sFrz 3 (sRet (mCall dTupOf (mCons (mVar 3) mNil)))))))
def m__written_step (ds : List D) : Option D := mDef 5 b__written_step ds
def b_code_records : En → Option Fl :=
  (sSeq (sDrop (mCall (lim 1 m_demand_code) (mCons (mVar 0) mNil)))
  (sRet (mCall dTupOf (mCons (mList (mLc (mIter (mVar 0)) (gSet 1) mYes (mCall (lim 1 m__written_step) (mCons (mVar 1) mNil)) [1])) mNil))))
def m_code_records (ds : List D) : Option D := mDef 2 b_code_records ds
def b__read_step : En → Option Fl :=
  (sSeq (sAsg (mVar 0) (gHeadRest (gSet 1) (gSet 2)))
  (sSeq (sAsg (mList (mSortedK (kv_PARTS.map (·.1)))) (gSet 3))
  (sSeq (sIf (mTest (mOp dGe (mVar 1) (mCall dLen (mCons (mVar 3) mNil))))
  (sRet (mC .none))
  sNext)
  (sSeq (sAsg (mOp dIx (mVar 3) (mVar 1)) (gSet 4))
  (sSeq (sAsg (mUn (dGetK kv_PARTS) (mVar 4)) (gSet 5))
  (sSeq (sIf (mTest (mOp (dInT true) (mC (.str ("row" : Str))) (mVar 5)))
  (sRet (mTup (mCons (mVar 4) (mStar (mVar 2) mNil))))
  sNext)
  (sSeq (sAsg (mOp dSub (mCall dLen (mCons (mVar 5) mNil)) (mC (.int 1))) (gSet 6))
  (sSeq (sAsg (mList (mSlL (mVar 2) mNoPart (mPart (mVar 6)))) (gSet 7))
  (sSeq (sAsg (mCall dTupOf (mCons (mList (mSlL (mVar 2) (mPart (mVar 6)) mNoPart)) mNil)) (gSet 8))
  (sRet (mTup (mCons (mVar 4) (mStar (mVar 7) (mCons (mVar 8) mNil))))))))))))))
def m__read_step (ds : List D) : Option D := mDef 9 b__read_step ds
def b_code_in : En → Option Fl :=
  (sSeq (sIf (mOr (mNot (mTru (mUn (dIsi "tuple") (mVar 0)))) (mNot (mTru (mCall dAll (mCons (mList (mLc (mIter (mVar 0)) (gSet 2) mYes (mCall (lim 1 m_is_record) (mCons (mVar 2) mNil)) [2])) mNil)))))
  (sRet (mC .none))
  sNext)
  (sSeq (sAsg (mCall dTupOf (mCons (mList (mLc (mIter (mVar 0)) (gSet 2) mYes (mCall (lim 1 m__read_step) (mCons (mVar 2) mNil)) [2])) mNil)) (gSet 1))
  (sRet (mIfE (mTru (mCall (lim 1 m_is_code) (mCons (mVar 1) mNil))) (mVar 1) (mC .none)))))
def m_code_in (ds : List D) : Option D := mDef 3 b_code_in ds
def fuel__law_pick_0 (ρ : En) : Nat := fuelOf 5 ρ
def b__law_pick : En → Option Fl :=
  (sSeq (sAsg (mIfE (mTest (mOp dNe (mVar 0) (mList (mLst mNil)))) (mOp dIx (mVar 0) (mOp dMod (mVar 1) (mCall dLen (mCons (mVar 0) mNil)))) (mC (.int 0))) (gSet 3))
  (sSeq (sPar 4 5 (mOp dFdiv (mVar 3) (mOp dPow (mC (.int 10)) (mC (.int 18)))) (mOp dFdiv (mVar 1) (mCall dMax2 (mCons (mCall dLen (mCons (mVar 0) mNil)) (mCons (mC (.int 1)) mNil)))))
  (sSeq (sWhile fuel__law_pick_0 (mAnd (mTest (mOp dGt (mVar 4) (mC (.int 0)))) (mTest (mOp dGt (mVar 5) (mC (.int 0)))))
  (sPar 4 5 (mOp dFdiv (mVar 4) (mC (.int 840))) (mOp dSub (mVar 5) (mC (.int 1)))))
  (sSeq (sIf (mTest (mOp dGt (mVar 4) (mC (.int 0))))
  (sRet (mOp dMod (mOp dMod (mVar 4) (mC (.int 840))) (mVar 2)))
  sNext)
  (sSeq (sAsg (mOp dMod (mOp dMul (mOp dAdd (mOp dMul (mVar 3) (mC (.int 31))) (mOp dMul (mC (.int 6151)) (mOp dAdd (mVar 1) (mC (.int 1))))) (mC (.int 40692))) (mC (.int 2147483399))) (gSet 6))
  (sRet (mOp dMod (mOp dMod (mOp dAdd (mOp dMul (mVar 6) (mVar 6)) (mOp dFdiv (mVar 6) (mC (.int 31)))) (mC (.int 2147483629))) (mVar 2))))))))
def m__law_pick (ds : List D) : Option D := mDef 7 b__law_pick ds
def b__law_step_code : En → Option Fl :=
  (sSeq (sAsg (mCall (lim 3 m__law_pick) (mCons (mVar 0) (mCons (mVar 1) (mCons (mC (.int 18)) mNil)))) (gSet 3))
  (sSeq (sAsg (mList (mLc (mRange1 (mCons (mC (.int 3)) mNil)) (gSet 10) mYes (mCall (lim 3 m__law_pick) (mCons (mVar 0) (mCons (mOp dAdd (mOp dAdd (mVar 1) (mC (.int 1))) (mVar 10)) (mCons (mC (.int 4)) mNil)))) [10])) (gLstM 3 (gConsM (gSet 4) (gConsM (gSet 5) (gConsM (gSet 6) gNilM)))))
  (sSeq (sAsg (mCall (lim 3 m__law_pick) (mCons (mVar 0) (mCons (mOp dAdd (mVar 1) (mC (.int 4))) (mCons (mVar 2) mNil)))) (gSet 7))
  (sSeq (sIf (mTest (mOp dLt (mVar 3) (mC (.int 2))))
  (sRet (mTup (mCons (mC (.str ("set" : Str))) (mCons (mVar 4) (mCons (mOp dIx (mList (mLst (mCons (mC (.int 0)) (mCons (mC (.int 1)) (mCons (mC (.int 2)) (mCons (mC (.int 7)) (mCons (mC (.int 9999)) mNil))))))) (mCall (lim 3 m__law_pick) (mCons (mVar 0) (mCons (mOp dAdd (mVar 1) (mC (.int 5))) (mCons (mC (.int 5)) mNil))))) mNil)))))
  sNext)
  (sSeq (sIf (mTest (mOp dLt (mVar 3) (mC (.int 6))))
  (sSeq (sAsg (mOp dIx (mList (mLst (mCons (mC (.str ("add" : Str))) (mCons (mC (.str ("sub" : Str))) (mCons (mC (.str ("mul" : Str))) (mCons (mC (.str ("div" : Str))) (mCons (mC (.str ("mod" : Str))) (mCons (mC (.str ("less" : Str))) (mCons (mC (.str ("same" : Str))) mNil))))))))) (mCall (lim 3 m__law_pick) (mCons (mVar 0) (mCons (mOp dAdd (mVar 1) (mC (.int 5))) (mCons (mC (.int 7)) mNil))))) (gSet 8))
  (sRet (mTup (mCons (mVar 8) (mCons (mVar 4) (mCons (mVar 5) (mCons (mVar 6) mNil)))))))
  sNext)
  (sSeq (sOwn 9 (mLst (mCons (mTup (mCons (mC (.str ("copy" : Str))) (mCons (mVar 4) (mCons (mVar 5) mNil)))) (mCons (mTup (mCons (mC (.str ("if" : Str))) (mCons (mVar 4) (mCons (mVar 7) mNil)))) (mCons (mTup (mCons (mC (.str ("take" : Str))) (mCons (mC (.int 0)) mNil))) (mCons (mTup (mCons (mC (.str ("take" : Str))) (mCons (mOp dMod (mVar 4) (mC (.int 2))) mNil))) (mCons (mTup (mCons (mC (.str ("over" : Str))) (mCons (mOp dMod (mVar 4) (mC (.int 2))) (mCons (mVar 7) mNil)))) (mCons (mTup (mCons (mC (.str ("field" : Str))) (mCons (mVar 4) (mCons (mC (.int 0)) (mCons (mOp dMod (mVar 6) (mC (.int 2))) mNil))))) mNil))))))))
  (sSeq (sExtend 9 (mLst (mCons (mTup (mCons (mC (.str ("field" : Str))) (mCons (mVar 4) (mCons (mOp dMod (mVar 5) (mC (.int 2))) (mCons (mVar 6) mNil))))) (mCons (mTup (mCons (mC (.str ("put" : Str))) (mCons (mC (.int 1)) (mCons (mTup (mCons (mVar 5) (mCons (mVar 6) mNil))) mNil)))) (mCons (mTup (mCons (mC (.str ("put" : Str))) (mCons (mOp dMod (mVar 4) (mC (.int 2))) (mCons (mTup (mCons (mVar 5) mNil)) mNil)))) (mCons (mTup (mCons (mC (.str ("line" : Str))) (mCons (mTup (mCons (mVar 4) mNil)) mNil))) mNil))))))
  (sSeq (sExtend 9 (mLst (mCons (mTup (mCons (mC (.str ("line" : Str))) (mCons (mTup (mCons (mVar 5) (mCons (mVar 6) mNil))) mNil))) (mCons (mTup (mCons (mC (.str ("go" : Str))) (mCons (mVar 7) mNil))) mNil))))
  (sFrz 9 (sRet (mOp dIx (mVar 9) (mOp dSub (mVar 3) (mC (.int 6))))))))))))))
def m__law_step_code (ds : List D) : Option D := mDef 11 b__law_step_code ds
def b__law_code : En → Option Fl :=
  (sSeq (sAsg (mOp dAdd (mC (.int 2)) (mCall (lim 3 m__law_pick) (mCons (mVar 0) (mCons (mVar 1) (mCons (mC (.int 12)) mNil))))) (gSet 2))
  (sSeq (sAsg (mList (mLc (mRange1 (mCons (mOp dSub (mVar 2) (mC (.int 1))) mNil)) (gSet 4) mYes (mCall (lim 3 m__law_step_code) (mCons (mVar 0) (mCons (mOp dAdd (mOp dAdd (mVar 1) (mC (.int 1))) (mOp dMul (mC (.int 6)) (mVar 4))) (mCons (mVar 2) mNil)))) [4])) (gSet 3))
  (sRet (mOp dAdd (mCall dTupOf (mCons (mVar 3) mNil)) (mTup (mCons (mTup (mCons (mC (.str ("end" : Str))) (mCons (mC (.int 0)) mNil))) mNil))))))
def m__law_code (ds : List D) : Option D := mDef 5 b__law_code ds
def b_law : En → Option Fl :=
  (sSeq (sPar 1 2 (mCall (lim 2 m__law_code) (mCons (mVar 0) (mCons (mC (.int 0)) mNil))) (mList (mLst (mCons (mC (.str ("set" : Str))) (mCons (mC (.str ("copy" : Str))) (mCons (mC (.str ("add" : Str))) (mCons (mC (.str ("sub" : Str))) (mCons (mC (.str ("mul" : Str))) (mCons (mC (.str ("div" : Str))) (mCons (mC (.str ("mod" : Str))) (mCons (mC (.str ("less" : Str))) (mCons (mC (.str ("same" : Str))) (mCons (mC (.str ("go" : Str))) (mCons (mC (.str ("if" : Str))) mNil))))))))))))))
  (sSeq (sAsg (mList (mCallL dSortedS (mCons (mList (mCatV (mVar 2) (mLst (mCons (mC (.str ("take" : Str))) (mCons (mC (.str ("over" : Str))) (mCons (mC (.str ("field" : Str))) (mCons (mC (.str ("put" : Str))) (mCons (mC (.str ("line" : Str))) (mCons (mC (.str ("mark" : Str))) (mCons (mC (.str ("end" : Str))) mNil)))))))))) mNil))) (gSet 2))
  (sSeq (sIf (mOr (mTest (mOp dIsNot (mCall (lim 1 m_is_code) (mCons (mVar 1) mNil)) (mC (.bool true)))) (mOr (mTest (mOp dIsNot (mCall (lim 1 m_is_code) (mCons (mOp dAdd (mVar 1) (mTup (mCons (mTup (mCons (mC (.str ("mark" : Str))) mNil)) mNil))) mNil)) (mC (.bool true)))) (mTest (mOp dIsNot (mCall (lim 1 m_is_code) (mCons (mList (mCallL dLstOf (mCons (mVar 1) mNil))) mNil)) (mC (.bool false))))))
  (sRet (mC (.bool false)))
  sNext)
  (sSeq (sOwn 3 (mLst mNil))
  (sSeq (sFor (mIter (mVar 1)) (gSet 4)
  (sSeq (sOwn 5 (mLst (mCons (mOp dIndex (mVar 2) (mOp dIx (mVar 4) (mC (.int 0)))) mNil)))
  (sSeq (sFor (mIter (mSl (mVar 4) (mPart (mC (.int 1))) mNoPart)) (gSet 6)
  (sExtend 5 (mIfL (mTru (mUn (dIsi "tuple") (mVar 6))) (mCallL dLstOf (mCons (mVar 6) mNil)) (mLst (mCons (mVar 6) mNil)))))
  (sFrz 5 (sAppend 3 (mCall dTupOf (mCons (mVar 5) mNil)))))))
  (sSeq (sAsg (mCall (lim 1 m_code_records) (mCons (mVar 1) mNil)) (gSet 7))
  (sSeq (sFrz 3 (sIf (mOr (mTest (mOp dNe (mVar 7) (mCall dTupOf (mCons (mVar 3) mNil)))) (mOr (mTest (mOp dNe (mCall (lim 1 m_code_in) (mCons (mVar 7) mNil)) (mVar 1))) (mNot (mTru (mCall (lim 1 m_are_records) (mCons (mVar 7) mNil))))))
  (sRet (mC (.bool false)))
  sNext))
  (sSeq (sOwn 8 (mLc (mIter (mVar 1)) (gSet 4) (mTest (mOp dInL (mOp dIx (mVar 4) (mC (.int 0))) (mList (mLst (mCons (mC (.str ("take" : Str))) (mCons (mC (.str ("over" : Str))) mNil)))))) (mOp dIx (mVar 4) (mC (.int 1))) [4]))
  (sSeq (sExtend 8 (mLc (mIter (mVar 1)) (gSet 4) (mTest (mOp dEq (mOp dIx (mVar 4) (mC (.int 0))) (mC (.str ("field" : Str))))) (mOp dIx (mVar 4) (mC (.int 2))) [4]))
  (sSeq (sAsg (mList (mSortedSet (mList (mLc (mIter (mVar 1)) (gSet 4) (mTest (mOp dEq (mOp dIx (mVar 4) (mC (.int 0))) (mC (.str ("put" : Str))))) (mOp dIx (mVar 4) (mC (.int 1))) [4])))) (gSet 9))
  (sSeq (sFrz 8 (sIf (mTest (mOp dNe (mCall (lim 1 m_slots_of) (mCons (mVar 1) mNil)) (mTup (mCons (mCall dTupOf (mCons (mList (mSortedSet (mVar 8))) mNil)) (mCons (mCall dTupOf (mCons (mVar 9) mNil)) mNil)))))
  (sRet (mC (.bool false)))
  sNext))
  (sSeq (sAsg (mCall (lim 3 m__law_pick) (mCons (mVar 0) (mCons (mC (.int 200)) (mCons (mCall dLen (mCons (mVar 7) mNil)) mNil)))) (gSet 10))
  (sSeq (sAsg (mList (mLc (mIter (mTup (mCons (mOp dAdd (mOp dIx (mVar 7) (mVar 10)) (mTup (mCons (mC (.int 0)) mNil))) (mCons (mTup (mCons (mC (.int 18)) mNil)) (mCons (mSl (mOp dIx (mVar 7) (mVar 10)) mNoPart (mPart (mC (.int 1)))) mNil))))) (gSet 13) mYes (mOp dAdd (mOp dAdd (mSl (mVar 7) mNoPart (mPart (mVar 10))) (mTup (mCons (mVar 13) mNil))) (mSl (mVar 7) (mPart (mOp dAdd (mVar 10) (mC (.int 1)))) mNoPart)) [13])) (gSet 11))
  (sSeq (sFrz 5 (sFor (mZip (mCons (mVar 11) (mCons (mList (mLc (mIter (mVar 11)) (gSet 5) mYes (mCall (lim 1 m_code_in) (mCons (mVar 5) mNil)) [5])) mNil))) (gTupM 2 (gConsM (gSet 5) (gConsM (gSet 12) gNilM)))
  (sFrz 5 (sIf (mAnd (mTest (mOp dIsNot (mVar 12) (mC .none))) (mOr (mTest (mOp dNe (mCall (lim 1 m_code_records) (mCons (mVar 12) mNil)) (mVar 5))) (mTest (mOp dEq (mVar 12) (mVar 1)))))
  (sRet (mC (.bool false)))
  sNext))))
  (sRet (mAndV (mOp dIs (mCall (lim 1 m_code_in) (mCons (mOp dAdd (mOp dAdd (mSl (mVar 7) mNoPart (mPart (mVar 10))) (mTup (mCons (mTup (mCons (mC (.int 18)) mNil)) mNil))) (mSl (mVar 7) (mPart (mOp dAdd (mVar 10) (mC (.int 1)))) mNoPart)) mNil)) (mC .none)) (mOp dIs (mCall (lim 1 m_code_in) (mCons (mTup mNil) mNil)) (mC .none))))))))))))))))))
def m_law (ds : List D) : Option D := mDef 14 b_law ds
/-! ### what the top leaves -/
structure Tx (K : PySem.W.Frag) (w : World) (mg : Str → Option Value) where
  f_is_whole : Addr
  d_is_whole : FuncData
  F_is_whole : Fun K "is_whole" "is_whole" s_is_whole f_is_whole d_is_whole
  b_is_whole : Binds K d_is_whole ["thing", "low", "high"] []
  g_is_whole : mg "is_whole" = some (.ref f_is_whole)
  f_is_word : Addr
  d_is_word : FuncData
  F_is_word : Fun K "is_word" "is_word" s_is_word f_is_word d_is_word
  b_is_word : Binds K d_is_word ["thing"] []
  g_is_word : mg "is_word" = some (.ref f_is_word)
  f_is_record : Addr
  d_is_record : FuncData
  F_is_record : Fun K "is_record" "is_record" s_is_record f_is_record d_is_record
  b_is_record : Binds K d_is_record ["thing"] []
  g_is_record : mg "is_record" = some (.ref f_is_record)
  f_are_records : Addr
  d_are_records : FuncData
  F_are_records : Fun K "are_records" "are_records" s_are_records f_are_records d_are_records
  b_are_records : Binds K d_are_records ["thing"] []
  g_are_records : mg "are_records" = some (.ref f_are_records)
  f_is_code : Addr
  d_is_code : FuncData
  F_is_code : Fun K "is_code" "is_code" s_is_code f_is_code d_is_code
  b_is_code : Binds K d_is_code ["thing"] []
  g_is_code : mg "is_code" = some (.ref f_is_code)
  f_demand_code : Addr
  d_demand_code : FuncData
  F_demand_code : Fun K "demand_code" "demand_code" s_demand_code f_demand_code d_demand_code
  b_demand_code : Binds K d_demand_code ["thing"] []
  g_demand_code : mg "demand_code" = some (.ref f_demand_code)
  f_slots_of : Addr
  d_slots_of : FuncData
  F_slots_of : Fun K "slots_of" "slots_of" s_slots_of f_slots_of d_slots_of
  b_slots_of : Binds K d_slots_of ["code"] []
  g_slots_of : mg "slots_of" = some (.ref f_slots_of)
  f_code_records : Addr
  d_code_records : FuncData
  F_code_records : Fun K "code_records" "code_records" s_code_records f_code_records d_code_records
  b_code_records : Binds K d_code_records ["code"] []
  g_code_records : mg "code_records" = some (.ref f_code_records)
  f_code_in : Addr
  d_code_in : FuncData
  F_code_in : Fun K "code_in" "code_in" s_code_in f_code_in d_code_in
  b_code_in : Binds K d_code_in ["records"] []
  g_code_in : mg "code_in" = some (.ref f_code_in)
  f__is_step : Addr
  d__is_step : FuncData
  F__is_step : Fun K "_is_step" "_is_step" s__is_step f__is_step d__is_step
  b__is_step : Binds K d__is_step ["thing", "many"] []
  g__is_step : mg "_is_step" = some (.ref f__is_step)
  f__is_part : Addr
  d__is_part : FuncData
  F__is_part : Fun K "_is_part" "_is_part" s__is_part f__is_part d__is_part
  b__is_part : Binds K d__is_part ["thing", "kind", "many"] []
  g__is_part : mg "_is_part" = some (.ref f__is_part)
  f__is_row : Addr
  d__is_row : FuncData
  F__is_row : Fun K "_is_row" "_is_row" s__is_row f__is_row d__is_row
  b__is_row : Binds K d__is_row ["thing"] []
  g__is_row : mg "_is_row" = some (.ref f__is_row)
  f__cards_of : Addr
  d__cards_of : FuncData
  F__cards_of : Fun K "_cards_of" "_cards_of" s__cards_of f__cards_of d__cards_of
  b__cards_of : Binds K d__cards_of ["step"] []
  g__cards_of : mg "_cards_of" = some (.ref f__cards_of)
  f__written_step : Addr
  d__written_step : FuncData
  F__written_step : Fun K "_written_step" "_written_step" s__written_step f__written_step d__written_step
  b__written_step : Binds K d__written_step ["step"] []
  g__written_step : mg "_written_step" = some (.ref f__written_step)
  f__read_step : Addr
  d__read_step : FuncData
  F__read_step : Fun K "_read_step" "_read_step" s__read_step f__read_step d__read_step
  b__read_step : Binds K d__read_step ["record"] []
  g__read_step : mg "_read_step" = some (.ref f__read_step)
  f__law_pick : Addr
  d__law_pick : FuncData
  F__law_pick : Fun K "_law_pick" "_law_pick" s__law_pick f__law_pick d__law_pick
  b__law_pick : Binds K d__law_pick ["_law_script", "_law_k", "_law_many"] []
  g__law_pick : mg "_law_pick" = some (.ref f__law_pick)
  f__law_step_code : Addr
  d__law_step_code : FuncData
  F__law_step_code : Fun K "_law_step_code" "_law_step_code" s__law_step_code f__law_step_code d__law_step_code
  b__law_step_code : Binds K d__law_step_code ["_law_script", "_law_at", "_law_many"] []
  g__law_step_code : mg "_law_step_code" = some (.ref f__law_step_code)
  f__law_code : Addr
  d__law_code : FuncData
  F__law_code : Fun K "_law_code" "_law_code" s__law_code f__law_code d__law_code
  b__law_code : Binds K d__law_code ["_law_script", "_law_at"] []
  g__law_code : mg "_law_code" = some (.ref f__law_code)
  f_law : Addr
  d_law : FuncData
  F_law : Fun K "law" "law" s_law f_law d_law
  b_law : Binds K d_law ["_law_script"] []
  g_law : mg "law" = some (.ref f_law)
  t_GREATEST_WORD : Tok
  c_GREATEST_WORD : mg "GREATEST_WORD" = some (.int 9999 t_GREATEST_WORD)
  t_MOST_WORDS : Tok
  c_MOST_WORDS : mg "MOST_WORDS" = some (.int 8 t_MOST_WORDS)
  t_MOST_RECORDS : Tok
  c_MOST_RECORDS : mg "MOST_RECORDS" = some (.int 30 t_MOST_RECORDS)
  t_MOST_STEPS : Tok
  c_MOST_STEPS : mg "MOST_STEPS" = some (.int 30 t_MOST_STEPS)
  k_PARTS : Addr
  C_PARTS : DictC K w k_PARTS kv_PARTS
  c_PARTS : mg "PARTS" = some (.ref k_PARTS)
  k_GREATEST : Addr
  C_GREATEST : DictC K w k_GREATEST kv_GREATEST
  c_GREATEST : mg "GREATEST" = some (.ref k_GREATEST)
  t_MOST_ROW : Tok
  c_MOST_ROW : mg "MOST_ROW" = some (.int 6 t_MOST_ROW)
  n_isinstance : mg "isinstance" = none
  n_int : mg "int" = none
  n_bool : mg "bool" = none
  n_tuple : mg "tuple" = none
  n_len : mg "len" = none
  n_all : mg "all" = none
  n_sorted : mg "sorted" = none
  n_set : mg "set" = none
  n_str : mg "str" = none
  n_zip : mg "zip" = none
  n_max : mg "max" = none
  n_range : mg "range" = none
  n_list : mg "list" = none
section
variable {P : Program} {w : World} {K : PySem.W.Frag} {mg : Str → Option Value} {base : Heap}
theorem ok_is_whole (T : Tx K w mg) : FnOk P w K mg base CX0 1 T.f_is_whole T.d_is_whole ["thing", "low", "high"] (spM K 3 m_is_whole) :=
  def_ok (N := N_is_whole) T.F_is_whole sc_is_whole fun cdv A outer s H E hr => ⟨_,
  (pss_one (ps_ret (pe_and (pe_callB call_isi (by rfl) T.n_isinstance (by decide +kernel) (pa_cons (pv 0) (pa_cons (pe_bltn (v := .ty "int") (by rfl) T.n_int (by decide +kernel) rfl) pa_nil))) (pe_and (pe_not (pe_callB call_isi (by rfl) T.n_isinstance (by decide +kernel) (pa_cons (pv 0) (pa_cons (pe_bltn (v := .ty "bool") (by rfl) T.n_bool (by decide +kernel) rfl) pa_nil)))) (pe_one (pe_chain op_le op_le (pv 1) (pv 0) (pv 2))))))),
  ((st_ret (ev_andV (ev_isi cls_int (ev_var 0)) (ev_andV (ev_notV (ev_isi cls_bool (ev_var 0))) (ev_chain rd_le' rd_le' (ev_var 1) (ev_var 0) (ev_var 2))))) : TSm K _ b_is_whole)⟩
theorem ok_is_word (T : Tx K w mg) : FnOk P w K mg base CX0 2 T.f_is_word T.d_is_word ["thing"] (spM K 1 m_is_word) :=
  def_ok (N := N_is_word) T.F_is_word sc_is_word fun cdv A outer s H E hr => ⟨_,
  (pss_one (ps_ret (pe_call (ok_is_whole T) (hr.mono (by decide)) (by rfl) T.g_is_whole T.F_is_whole.kp T.b_is_whole .nil pass0 (pa_cons (pv 0) (pa_cons pe_int (pa_cons (pe_glob (v := .int 9999) (by rfl) T.c_GREATEST_WORD ⟨_, rfl⟩) pa_nil)))))),
  ((st_ret (ev_call' (ea_cons (ev_var 0) (ea_cons ev_int (ea_cons ev_int ea_nil))))) : TSm K _ b_is_word)⟩
theorem ok_is_record (T : Tx K w mg) : FnOk P w K mg base CX0 3 T.f_is_record T.d_is_record ["thing"] (spM K 1 m_is_record) :=
  def_ok (N := N_is_record) T.F_is_record sc_is_record fun cdv A outer s H E hr => ⟨_,
  (pss_cons (ps_if (PW.pt (pw_or (pt_not (pt_tr (pe_callB call_isi (by rfl) T.n_isinstance (by decide +kernel) (pa_cons (pv 0) (pa_cons (pe_bltn (v := .ty "tuple") (by rfl) T.n_tuple (by decide +kernel) rfl) pa_nil))) (fun _ => rfl))) (pw_or1 (pt_not (pt_chain op_le op_le pe_int (pe_callB cr_len (by rfl) T.n_len (by decide +kernel) (pa_cons (pv 0) pa_nil)) (pe_glob (v := .int 8) (by rfl) T.c_MOST_WORDS ⟨_, rfl⟩)))))) (pss_one (ps_ret pe_bl)) pss_nil)
  (pss_one (ps_ret (pe_callB (cr_all rfl) (by rfl) T.n_all (by decide +kernel) (pa_cons (pe_lc (own := [("part", 1)]) (g := gName 1) (tt := tYes) rfl sc_is_record.nd (pi_any (pv 0)) (blkOk_by (N := N_is_record) (sc := defScope s_is_record) (by decide +kernel)) (fun _ _ _ _ _ => (pg_name (i := 1) sc_is_record.nd rfl (.inl rfl))) (fun _ _ _ _ _ => pts_nil) (fun _ _ _ _ _ => (pe_call (ok_is_word T) (hr.mono (by decide)) (by rfl) T.g_is_word T.F_is_word.kp T.b_is_word .nil pass0 (pa_cons (pv 1) pa_nil)))) pa_nil))))),
  ((st_seq (st_if (et_or (et_not (et_tru (ev_isi cls_tuple (ev_var 0)))) (et_not (et_test (ev_chain rd_le' rd_le' ev_int (ev_cb cd_len (ea_cons (ev_var 0) ea_nil)) ev_int))))
  (st_ret ev_bl)
  st_next)
  (st_ret (ev_cb cd_all (ea_cons (ev_list (fl_lc (vs := [1]) (it_any (ev_var 0)) (tg_name 1 (by decide)) et_yes (ev_call' (ea_cons (ev_var 1) ea_nil)))) ea_nil)))) : TSm K _ b_is_record)⟩
theorem ok_are_records (T : Tx K w mg) : FnOk P w K mg base CX0 4 T.f_are_records T.d_are_records ["thing"] (spM K 1 m_are_records) :=
  def_ok (N := N_are_records) T.F_are_records sc_are_records fun cdv A outer s H E hr => ⟨_,
  (pss_cons (ps_if (PW.pt (pw_or (pt_not (pt_tr (pe_callB call_isi (by rfl) T.n_isinstance (by decide +kernel) (pa_cons (pv 0) (pa_cons (pe_bltn (v := .ty "tuple") (by rfl) T.n_tuple (by decide +kernel) rfl) pa_nil))) (fun _ => rfl))) (pw_or1 (pt_cmpR op_gt (pe_callB cr_len (by rfl) T.n_len (by decide +kernel) (pa_cons (pv 0) pa_nil)) (pe_glob (v := .int 30) (by rfl) T.c_MOST_RECORDS ⟨_, rfl⟩) (nomark _))))) (pss_one (ps_ret pe_bl)) pss_nil)
  (pss_one (ps_ret (pe_callB (cr_all rfl) (by rfl) T.n_all (by decide +kernel) (pa_cons (pe_lc (own := [("part", 1)]) (g := gName 1) (tt := tYes) rfl sc_are_records.nd (pi_any (pv 0)) (blkOk_by (N := N_are_records) (sc := defScope s_are_records) (by decide +kernel)) (fun _ _ _ _ _ => (pg_name (i := 1) sc_are_records.nd rfl (.inl rfl))) (fun _ _ _ _ _ => pts_nil) (fun _ _ _ _ _ => (pe_call (ok_is_record T) (hr.mono (by decide)) (by rfl) T.g_is_record T.F_is_record.kp T.b_is_record .nil pass0 (pa_cons (pv 1) pa_nil)))) pa_nil))))),
  ((st_seq (st_if (et_or (et_not (et_tru (ev_isi cls_tuple (ev_var 0)))) (et_test (ev_op rd_gt' (ev_cb cd_len (ea_cons (ev_var 0) ea_nil)) ev_int)))
  (st_ret ev_bl)
  st_next)
  (st_ret (ev_cb cd_all (ea_cons (ev_list (fl_lc (vs := [1]) (it_any (ev_var 0)) (tg_name 1 (by decide)) et_yes (ev_call' (ea_cons (ev_var 1) ea_nil)))) ea_nil)))) : TSm K _ b_are_records)⟩
theorem ok__is_row (T : Tx K w mg) : FnOk P w K mg base CX0 2 T.f__is_row T.d__is_row ["thing"] (spM K 1 m__is_row) :=
  def_ok (N := N__is_row) T.F__is_row sc__is_row fun cdv A outer s H E hr => ⟨_,
  (pss_cons (ps_if (PW.pt (pw_or (pt_not (pt_tr (pe_callB call_isi (by rfl) T.n_isinstance (by decide +kernel) (pa_cons (pv 0) (pa_cons (pe_bltn (v := .ty "tuple") (by rfl) T.n_tuple (by decide +kernel) rfl) pa_nil))) (fun _ => rfl))) (pw_or1 (pt_not (pt_chain op_le op_le pe_int (pe_callB cr_len (by rfl) T.n_len (by decide +kernel) (pa_cons (pv 0) pa_nil)) (pe_glob (v := .int 6) (by rfl) T.c_MOST_ROW ⟨_, rfl⟩)))))) (pss_one (ps_ret pe_bl)) pss_nil)
  (pss_one (ps_ret (pe_callB (cr_all rfl) (by rfl) T.n_all (by decide +kernel) (pa_cons (pe_lc (own := [("part", 1)]) (g := gName 1) (tt := tYes) rfl sc__is_row.nd (pi_any (pv 0)) (blkOk_by (N := N__is_row) (sc := defScope s__is_row) (by decide +kernel)) (fun _ _ _ _ _ => (pg_name (i := 1) sc__is_row.nd rfl (.inl rfl))) (fun _ _ _ _ _ => pts_nil) (fun _ _ _ _ _ => (pe_call (ok_is_whole T) (hr.mono (by decide)) (by rfl) T.g_is_whole T.F_is_whole.kp T.b_is_whole .nil pass0 (pa_cons (pv 1) (pa_cons pe_int (pa_cons (pe_ix (ix_getK T.C_GREATEST) (pe_glob (v := .ref T.k_GREATEST) (by rfl) T.c_GREATEST rfl) pe_str (fun _ _ => rfl)) pa_nil)))))) pa_nil))))),
  ((st_seq (st_if (et_or (et_not (et_tru (ev_isi cls_tuple (ev_var 0)))) (et_not (et_test (ev_chain rd_le' rd_le' ev_int (ev_cb cd_len (ea_cons (ev_var 0) ea_nil)) ev_int))))
  (st_ret ev_bl)
  st_next)
  (st_ret (ev_cb cd_all (ea_cons (ev_list (fl_lc (vs := [1]) (it_any (ev_var 0)) (tg_name 1 (by decide)) et_yes (ev_call' (ea_cons (ev_var 1) (ea_cons ev_int (ea_cons (ev_getK T.C_GREATEST ev_str) ea_nil)))))) ea_nil)))) : TSm K _ b__is_row)⟩
theorem ok__is_part (T : Tx K w mg) : FnOk P w K mg base CX0 3 T.f__is_part T.d__is_part ["thing", "kind", "many"] (spM K 3 m__is_part) :=
  def_ok (N := N__is_part) T.F__is_part sc__is_part fun cdv A outer s H E hr => ⟨_,
  (pss_cons (ps_if (pt_cmpR (op_eqD hr.units) (pv 1) pe_str (nomark _)) (pss_one (ps_ret (pe_call (ok__is_row T) (hr.mono (by decide)) (by rfl) T.g__is_row T.F__is_row.kp T.b__is_row .nil pass0 (pa_cons (pv 0) pa_nil)))) pss_nil)
  (pss_cons (ps_if (pt_cmpR (op_eqD hr.units) (pv 1) pe_str (nomark _)) (pss_one (ps_ret (pe_call (ok_is_word T) (hr.mono (by decide)) (by rfl) T.g_is_word T.F_is_word.kp T.b_is_word .nil pass0 (pa_cons (pv 0) pa_nil)))) pss_nil)
  (pss_cons (ps_if (pt_cmpR (op_eqD hr.units) (pv 1) pe_str (nomark _)) (pss_one (ps_ret (pe_call (ok_is_whole T) (hr.mono (by decide)) (by rfl) T.g_is_whole T.F_is_whole.kp T.b_is_whole .nil pass0 (pa_cons (pv 0) (pa_cons pe_int (pa_cons (pe_op op_sub (pv 2) pe_int) pa_nil)))))) pss_nil)
  (pss_one (ps_ret (pe_call (ok_is_whole T) (hr.mono (by decide)) (by rfl) T.g_is_whole T.F_is_whole.kp T.b_is_whole .nil pass0 (pa_cons (pv 0) (pa_cons pe_int (pa_cons (pe_ix (ix_getK T.C_GREATEST) (pe_glob (v := .ref T.k_GREATEST) (by rfl) T.c_GREATEST rfl) (pv 1) (fun _ _ => rfl)) pa_nil))))))))),
  ((st_seq (st_if (et_test (ev_op rd_eq (ev_var 1) ev_str))
  (st_ret (ev_call' (ea_cons (ev_var 0) ea_nil)))
  st_next)
  (st_seq (st_if (et_test (ev_op rd_eq (ev_var 1) ev_str))
  (st_ret (ev_call' (ea_cons (ev_var 0) ea_nil)))
  st_next)
  (st_seq (st_if (et_test (ev_op rd_eq (ev_var 1) ev_str))
  (st_ret (ev_call' (ea_cons (ev_var 0) (ea_cons ev_int (ea_cons (ev_op rd_sub (ev_var 2) ev_int) ea_nil)))))
  st_next)
  (st_ret (ev_call' (ea_cons (ev_var 0) (ea_cons ev_int (ea_cons (ev_getK T.C_GREATEST (ev_var 1)) ea_nil)))))))) : TSm K _ b__is_part)⟩
theorem ok__is_step (T : Tx K w mg) : FnOk P w K mg base CX0 4 T.f__is_step T.d__is_step ["thing", "many"] (spM K 2 m__is_step) :=
  def_ok (N := N__is_step) T.F__is_step sc__is_step fun cdv A outer s H E hr => ⟨_,
  (pss_cons (ps_if (PW.pt (pw_or (pt_not (pt_tr (pe_callB call_isi (by rfl) T.n_isinstance (by decide +kernel) (pa_cons (pv 0) (pa_cons (pe_bltn (v := .ty "tuple") (by rfl) T.n_tuple (by decide +kernel) rfl) pa_nil))) (fun _ => rfl))) (pw_or1 (pt_not (pt_tr (pv 0) (fun _ => rfl)))))) (pss_one (ps_ret pe_bl)) pss_nil)
  (pss_cons (ps_asg (pv 0) (pg_headRest rfl (pg_name (i := 2) sc__is_step.nd rfl (.inl rfl)) (pg_name (i := 3) sc__is_step.nd rfl (.inl rfl))))
  (pss_cons (ps_if (PW.pt (pw_or (pt_not (pt_tr (pe_callB call_isi (by rfl) T.n_isinstance (by decide +kernel) (pa_cons (pv 2) (pa_cons (pe_bltn (v := .ty "str") (by rfl) T.n_str (by decide +kernel) rfl) pa_nil))) (fun _ => rfl))) (pw_or1 (pt_cmpR (op_notInK T.C_PARTS) (pv 2) (pe_glob (v := .ref T.k_PARTS) (by rfl) T.c_PARTS rfl) (by with_unfolding_all rfl))))) (pss_one (ps_ret pe_bl)) pss_nil)
  (pss_cons (ps_set (i := 4) sc__is_step.nd rfl (.inl rfl) (pe_ix (ix_getK T.C_PARTS) (pe_glob (v := .ref T.k_PARTS) (by rfl) T.c_PARTS rfl) (pv 2) (fun _ _ => rfl)))
  (pss_cons (ps_if (pt_cmpR (op_neD hr.units) (pe_callB cr_len (by rfl) T.n_len (by decide +kernel) (pa_cons (pv 3) pa_nil)) (pe_callB cr_len (by rfl) T.n_len (by decide +kernel) (pa_cons (pv 4) pa_nil)) (nomark _)) (pss_one (ps_ret pe_bl)) pss_nil)
  (pss_one (ps_ret (pe_callB (cr_all rfl) (by rfl) T.n_all (by decide +kernel) (pa_cons (pe_lc (own := [("part", 5), ("kind", 6)]) (g := _) (tt := tYes) rfl sc__is_step.nd (pi_zipX (by rfl) T.n_zip (pa_cons (pv 3) (pa_cons (pv 4) pa_nil))) (blkOk_by (N := N__is_step) (sc := defScope s__is_step) (by decide +kernel)) (fun _ _ _ _ _ => (pg_tup rfl (pgs_cons (pg_name (i := 5) sc__is_step.nd rfl (.inl rfl)) (pgs_cons (pg_name (i := 6) sc__is_step.nd rfl (.inl rfl)) pgs_nil)))) (fun _ _ _ _ _ => pts_nil) (fun _ _ _ _ _ => (pe_call (ok__is_part T) (hr.mono (by decide)) (by rfl) T.g__is_part T.F__is_part.kp T.b__is_part .nil pass0 (pa_cons (pv 5) (pa_cons (pv 6) (pa_cons (pv 1) pa_nil)))))) pa_nil))))))))),
  ((st_seq (st_if (et_or (et_not (et_tru (ev_isi cls_tuple (ev_var 0)))) (et_not (et_tru (ev_var 0))))
  (st_ret ev_bl)
  st_next)
  (st_seq (st_asg (vs := [2, 3]) (ev_var 0) (tg_headRest (tg_name 2 (by decide)) (tg_name 3 (by decide))))
  (st_seq (st_if (et_or (et_not (et_tru (ev_isi cls_str (ev_var 2)))) (et_test (ev_notInK T.C_PARTS (ev_var 2))))
  (st_ret ev_bl)
  st_next)
  (st_seq (st_set 4 (ev_getK T.C_PARTS (ev_var 2)))
  (st_seq (st_if (et_test (ev_op rd_ne (ev_cb cd_len (ea_cons (ev_var 3) ea_nil)) (ev_cb cd_len (ea_cons (ev_var 4) ea_nil))))
  (st_ret ev_bl)
  st_next)
  (st_ret (ev_cb cd_all (ea_cons (ev_list (fl_lc (vs := [5, 6]) (it_zipX (ea_cons (ev_var 3) (ea_cons (ev_var 4) ea_nil))) (tg_tup (tgs_cons (tg_name 5 (by decide)) (tgs_cons (tg_name 6 (by decide)) tgs_nil))) et_yes (ev_call' (ea_cons (ev_var 5) (ea_cons (ev_var 6) (ea_cons (ev_var 1) ea_nil)))))) ea_nil)))))))) : TSm K _ b__is_step)⟩
theorem ok_is_code (T : Tx K w mg) : FnOk P w K mg base CX0 5 T.f_is_code T.d_is_code ["thing"] (spM K 1 m_is_code) :=
  def_ok (N := N_is_code) T.F_is_code sc_is_code fun cdv A outer s H E hr => ⟨_,
  (pss_cons (ps_if (PW.pt (pw_or (pt_not (pt_tr (pe_callB call_isi (by rfl) T.n_isinstance (by decide +kernel) (pa_cons (pv 0) (pa_cons (pe_bltn (v := .ty "tuple") (by rfl) T.n_tuple (by decide +kernel) rfl) pa_nil))) (fun _ => rfl))) (pw_or1 (pt_not (pt_chain op_le op_le pe_int (pe_callB cr_len (by rfl) T.n_len (by decide +kernel) (pa_cons (pv 0) pa_nil)) (pe_glob (v := .int 30) (by rfl) T.c_MOST_STEPS ⟨_, rfl⟩)))))) (pss_one (ps_ret pe_bl)) pss_nil)
  (pss_one (ps_ret (pe_callB (cr_all rfl) (by rfl) T.n_all (by decide +kernel) (pa_cons (pe_lc (own := [("part", 1)]) (g := gName 1) (tt := tYes) rfl sc_is_code.nd (pi_any (pv 0)) (blkOk_by (N := N_is_code) (sc := defScope s_is_code) (by decide +kernel)) (fun _ _ _ _ _ => (pg_name (i := 1) sc_is_code.nd rfl (.inl rfl))) (fun _ _ _ _ _ => pts_nil) (fun _ _ _ _ _ => (pe_call (ok__is_step T) (hr.mono (by decide)) (by rfl) T.g__is_step T.F__is_step.kp T.b__is_step .nil pass0 (pa_cons (pv 1) (pa_cons (pe_callB cr_len (by rfl) T.n_len (by decide +kernel) (pa_cons (pv 0) pa_nil)) pa_nil))))) pa_nil))))),
  ((st_seq (st_if (et_or (et_not (et_tru (ev_isi cls_tuple (ev_var 0)))) (et_not (et_test (ev_chain rd_le' rd_le' ev_int (ev_cb cd_len (ea_cons (ev_var 0) ea_nil)) ev_int))))
  (st_ret ev_bl)
  st_next)
  (st_ret (ev_cb cd_all (ea_cons (ev_list (fl_lc (vs := [1]) (it_any (ev_var 0)) (tg_name 1 (by decide)) et_yes (ev_call' (ea_cons (ev_var 1) (ea_cons (ev_cb cd_len (ea_cons (ev_var 0) ea_nil)) ea_nil))))) ea_nil)))) : TSm K _ b_is_code)⟩
theorem ok_demand_code (T : Tx K w mg) : FnOk P w K mg base CX0 6 T.f_demand_code T.d_demand_code ["thing"] (spM K 1 m_demand_code) :=
  def_ok (N := N_demand_code) T.F_demand_code sc_demand_code fun cdv A outer s H E hr => ⟨_,
  (pss_one (ps_if (pt_not (pt_tr (pe_call (ok_is_code T) (hr.mono (by decide)) (by rfl) T.g_is_code T.F_is_code.kp T.b_is_code .nil pass0 (pa_cons (pv 0) pa_nil)) (fun _ => rfl))) (pss_one ps_never) pss_nil)),
  ((st_if (et_not (et_tru (ev_call' (ea_cons (ev_var 0) ea_nil))))
  st_stop
  st_next) : TSm K _ b_demand_code)⟩
theorem ok__cards_of (T : Tx K w mg) : FnOk P w K mg base CX0 1 T.f__cards_of T.d__cards_of ["step"] (spM K 1 m__cards_of) :=
  def_ok (N := N__cards_of) T.F__cards_of sc__cards_of fun cdv A outer s H E hr => ⟨_,
  (pss_cons (ps_asg (pv 0) (pg_headRest rfl (pg_name (i := 1) sc__cards_of.nd rfl (.inl rfl)) (pg_name (i := 2) sc__cards_of.nd rfl (.inl rfl))))
  (pss_one (ps_ret (pe_lc (own := [("part", 3), ("kind", 4)]) (g := _) (tt := _) rfl sc__cards_of.nd (pi_zipX (by rfl) T.n_zip (pa_cons (pv 2) (pa_cons (pe_ix (ix_getK T.C_PARTS) (pe_glob (v := .ref T.k_PARTS) (by rfl) T.c_PARTS rfl) (pv 1) (fun _ _ => rfl)) pa_nil))) (blkOk_by (N := N__cards_of) (sc := defScope s__cards_of) (by decide +kernel)) (fun _ _ _ _ _ => (pg_tup rfl (pgs_cons (pg_name (i := 3) sc__cards_of.nd rfl (.inl rfl)) (pgs_cons (pg_name (i := 4) sc__cards_of.nd rfl (.inl rfl)) pgs_nil)))) (fun _ _ _ _ _ => pts_one (pt_cmpR (op_eqD hr.units) (pv 4) pe_str (nomark _))) (fun _ _ _ _ _ => (pv 3)))))),
  ((st_seq (st_asg (vs := [1, 2]) (ev_var 0) (tg_headRest (tg_name 1 (by decide)) (tg_name 2 (by decide))))
  (st_ret (ev_list (fl_lc (vs := [3, 4]) (it_zipX (ea_cons (ev_var 2) (ea_cons (ev_getK T.C_PARTS (ev_var 1)) ea_nil))) (tg_tup (tgs_cons (tg_name 3 (by decide)) (tgs_cons (tg_name 4 (by decide)) tgs_nil))) (et_test (ev_op rd_eq (ev_var 4) ev_str)) (ev_var 3))))) : TSm K _ b__cards_of)⟩
theorem ok_slots_of (T : Tx K w mg) : FnOk P w K mg base CX0 7 T.f_slots_of T.d_slots_of ["code"] (spM K 1 m_slots_of) :=
  def_ok (N := N_slots_of) T.F_slots_of sc_slots_of fun cdv A outer s H E hr => ⟨_,
  (pss_cons (ps_expr (pe_call (ok_demand_code T) (hr.mono (by decide)) (by rfl) T.g_demand_code T.F_demand_code.kp T.b_demand_code .nil pass0 (pa_cons (pv 0) pa_nil)))
  (pss_cons (ps_setLc2 (i := 1) (own := [("step", 3), ("card", 4)]) (vs1 := [4]) rfl sc_slots_of.nd rfl rfl (sw_true rfl rfl rfl (by decide +kernel)) (pi_any (pv 0)) (blkOk_by (N := N_slots_of) (sc := defScope s_slots_of) (by decide +kernel)) (by decide) (fun _ _ _ _ _ => (pg_name (i := 3) sc_slots_of.nd rfl (.inl rfl))) (fun _ _ _ _ _ => pts_one (pt_cmpR (op_neD hr.units) (pe_ix ix_seq (pv 3) pe_int (fun _ _ => rfl)) pe_str (nomark _))) (fun _ _ _ _ _ => (pi_any (pe_call (ok__cards_of T) (hr.mono (by decide)) (by rfl) T.g__cards_of T.F__cards_of.kp T.b__cards_of .nil pass0 (pa_cons (pv 3) pa_nil)))) (fun _ _ _ _ _ => (pg_name (i := 4) sc_slots_of.nd rfl (.inl rfl))) (fun _ _ _ _ _ => pts_nil) (fun _ _ _ _ _ => (pv 4)))
  (pss_cons (ps_setLc2 (i := 2) (own := [("step", 3), ("card", 4)]) (vs1 := [4]) rfl sc_slots_of.nd rfl rfl (sw_true rfl rfl rfl (by decide +kernel)) (pi_any (pv 0)) (blkOk_by (N := N_slots_of) (sc := defScope s_slots_of) (by decide +kernel)) (by decide) (fun _ _ _ _ _ => (pg_name (i := 3) sc_slots_of.nd rfl (.inl rfl))) (fun _ _ _ _ _ => pts_one (pt_cmpR (op_eqD hr.units) (pe_ix ix_seq (pv 3) pe_int (fun _ _ => rfl)) pe_str (nomark _))) (fun _ _ _ _ _ => (pi_any (pe_call (ok__cards_of T) (hr.mono (by decide)) (by rfl) T.g__cards_of T.F__cards_of.kp T.b__cards_of .nil pass0 (pa_cons (pv 3) pa_nil)))) (fun _ _ _ _ _ => (pg_name (i := 4) sc_slots_of.nd rfl (.inl rfl))) (fun _ _ _ _ _ => pts_nil) (fun _ _ _ _ _ => (pv 4)))
  (pss_one (ps_ret (pe_tup (pa_cons (pe_callTy cr_tupOf (by rfl) T.n_tuple (by decide +kernel) (pa_cons (pe_sortedSet (by rfl) T.n_sorted (by rfl) T.n_set (pv 1)) pa_nil)) (pa_cons (pe_callTy cr_tupOf (by rfl) T.n_tuple (by decide +kernel) (pa_cons (pe_sortedSet (by rfl) T.n_sorted (by rfl) T.n_set (pv 2)) pa_nil)) pa_nil)))))))),
  ((st_seq (st_drop (ev_call' (ea_cons (ev_var 0) ea_nil)))
  (st_seq (st_set 1 (ev_list (fl_lc2 (vs := [3, 4]) (vs1 := [4]) (it_any (ev_var 0)) (tg_name 3 (by decide)) (et_test (ev_op rd_ne (ev_op rd_ix (ev_var 3) ev_int) ev_str)) (it_any (ev_call' (ea_cons (ev_var 3) ea_nil))) (tg_name 4 (by decide)) et_yes (ev_var 4))))
  (st_seq (st_set 2 (ev_list (fl_lc2 (vs := [3, 4]) (vs1 := [4]) (it_any (ev_var 0)) (tg_name 3 (by decide)) (et_test (ev_op rd_eq (ev_op rd_ix (ev_var 3) ev_int) ev_str)) (it_any (ev_call' (ea_cons (ev_var 3) ea_nil))) (tg_name 4 (by decide)) et_yes (ev_var 4))))
  (st_ret (ev_tup (ea_cons (ev_cb cd_tupOf (ea_cons (ev_list (fl_sortedSet (ev_var 1))) ea_nil)) (ea_cons (ev_cb cd_tupOf (ea_cons (ev_list (fl_sortedSet (ev_var 2))) ea_nil)) ea_nil))))))) : TSm K _ b_slots_of)⟩
theorem ok__written_step (T : Tx K w mg) : FnOk P w K mg base CX0 1 T.f__written_step T.d__written_step ["step"] (spM K 1 m__written_step) :=
  def_ok (N := N__written_step) T.F__written_step sc__written_step fun cdv A outer s H E hr => ⟨_,
  (pss_cons (ps_asg (pv 0) (pg_headRest rfl (pg_name (i := 1) sc__written_step.nd rfl (.inl rfl)) (pg_name (i := 2) sc__written_step.nd rfl (.inl rfl))))
  (pss_cons (ps_set (i := 3) sc__written_step.nd rfl (.inl rfl) (pe_lst (pa_cons (pe_bm PySem.F.plainAttrs_list PySem.F.slot_list_index PySem.F.type_list_index (mt_indexD (hu65 hr)) (pe_callB (cr_sortedK T.C_PARTS (by decide) (by decide +kernel) rfl) (by rfl) T.n_sorted (by decide +kernel) (pa_cons (pe_glob (v := .ref T.k_PARTS) (by rfl) T.c_PARTS rfl) pa_nil)) (pa_cons (pv 1) pa_nil)) pa_nil)))
  (pss_cons (ps_for PassesOwn.never rfl (pi_any (pv 2)) (pg_name (i := 4) sc__written_step.nd rfl (.inl rfl)) (pss_one (ps_if (pt_tr (pe_callB call_isi (by rfl) T.n_isinstance (by decide +kernel) (pa_cons (pv 4) (pa_cons (pe_bltn (v := .ty "tuple") (by rfl) T.n_tuple (by decide +kernel) rfl) pa_nil))) (fun _ => rfl)) (pss_one (ps_expr (pe_bm PySem.F.plainAttrs_list PySem.F.slot_list_extend PySem.F.type_list_extend mt_extendA (pv 3) (pa_cons (pv 4) pa_nil)))) (pss_one (ps_expr (pe_bm PySem.F.plainAttrs_list PySem.F.slot_list_append PySem.F.type_list_append mt_append (pv 3) (pa_cons (pv 4) pa_nil)))))))
  (pss_one (ps_ret (pe_callTy cr_tupOf (by rfl) T.n_tuple (by decide +kernel) (pa_cons (pv 3) pa_nil))))))),
  ((st_seq (st_asg (vs := [1, 2]) (ev_var 0) (tg_headRest (tg_name 1 (by decide)) (tg_name 2 (by decide))))
  (st_seq (st_own 3 (fl_lst (ea_cons (ev_index (ev_list fl_sortedK) (ev_var 1)) ea_nil)))
  (st_seq (st_for (vs := [4]) (it_any (ev_var 2)) (tg_name 4 (by decide))
  (st_if (et_tru (ev_isi cls_tuple (ev_var 4)))
  (st_extendA (i := 3) (ev_var 4))
  (st_append (i := 3) (ev_var 4))))
  (st_frz 3 (st_ret (ev_cb cd_tupOf (ea_cons (ev_var 3) ea_nil))))))) : TSm K _ b__written_step)⟩
theorem ok_code_records (T : Tx K w mg) : FnOk P w K mg base CX0 7 T.f_code_records T.d_code_records ["code"] (spM K 1 m_code_records) :=
  def_ok (N := N_code_records) T.F_code_records sc_code_records fun cdv A outer s H E hr => ⟨_,
  (pss_cons (ps_expr (pe_call (ok_demand_code T) (hr.mono (by decide)) (by rfl) T.g_demand_code T.F_demand_code.kp T.b_demand_code .nil pass0 (pa_cons (pv 0) pa_nil)))
  (pss_one (ps_ret (pe_callTy cr_tupOf (by rfl) T.n_tuple (by decide +kernel) (pa_cons (pe_lc (own := [("step", 1)]) (g := gName 1) (tt := tYes) rfl sc_code_records.nd (pi_any (pv 0)) (blkOk_by (N := N_code_records) (sc := defScope s_code_records) (by decide +kernel)) (fun _ _ _ _ _ => (pg_name (i := 1) sc_code_records.nd rfl (.inl rfl))) (fun _ _ _ _ _ => pts_nil) (fun _ _ _ _ _ => (pe_call (ok__written_step T) (hr.mono (by decide)) (by rfl) T.g__written_step T.F__written_step.kp T.b__written_step .nil pass0 (pa_cons (pv 1) pa_nil)))) pa_nil))))),
  ((st_seq (st_drop (ev_call' (ea_cons (ev_var 0) ea_nil)))
  (st_ret (ev_cb cd_tupOf (ea_cons (ev_list (fl_lc (vs := [1]) (it_any (ev_var 0)) (tg_name 1 (by decide)) et_yes (ev_call' (ea_cons (ev_var 1) ea_nil)))) ea_nil)))) : TSm K _ b_code_records)⟩
theorem ok__read_step (T : Tx K w mg) : FnOk P w K mg base CX0 1 T.f__read_step T.d__read_step ["record"] (spM K 1 m__read_step) :=
  def_ok (N := N__read_step) T.F__read_step sc__read_step fun cdv A outer s H E hr => ⟨_,
  (pss_cons (ps_asg (pv 0) (pg_headRest rfl (pg_name (i := 1) sc__read_step.nd rfl (.inl rfl)) (pg_name (i := 2) sc__read_step.nd rfl (.inl rfl))))
  (pss_cons (ps_set (i := 3) sc__read_step.nd rfl (.inl rfl) (pe_callB (cr_sortedK T.C_PARTS (by decide) (by decide +kernel) rfl) (by rfl) T.n_sorted (by decide +kernel) (pa_cons (pe_glob (v := .ref T.k_PARTS) (by rfl) T.c_PARTS rfl) pa_nil)))
  (pss_cons (ps_if (pt_cmpR op_ge (pv 1) (pe_callB cr_len (by rfl) T.n_len (by decide +kernel) (pa_cons (pv 3) pa_nil)) (nomark _)) (pss_one (ps_ret pe_non)) pss_nil)
  (pss_cons (ps_set (i := 4) sc__read_step.nd rfl (.inl rfl) (pe_ix ix_seq (pv 3) (pv 1) (fun _ _ => rfl)))
  (pss_cons (ps_set (i := 5) sc__read_step.nd rfl (.inl rfl) (pe_ix (ix_getK T.C_PARTS) (pe_glob (v := .ref T.k_PARTS) (by rfl) T.c_PARTS rfl) (pv 4) (fun _ _ => rfl)))
  (pss_cons (ps_if (pt_cmpR op_notIn_seq pe_str (pv 5) (by with_unfolding_all rfl)) (pss_one (ps_ret (pe_tup (pa_cons (pv 4) (StX.pa_star (pv 2) pa_nil))))) pss_nil)
  (pss_cons (ps_set (i := 6) sc__read_step.nd rfl (.inl rfl) (pe_op op_sub (pe_callB cr_len (by rfl) T.n_len (by decide +kernel) (pa_cons (pv 5) pa_nil)) pe_int))
  (pss_cons (ps_set (i := 7) sc__read_step.nd rfl (.inl rfl) (pe_slice sl_list (pv 2) po_none (po_some (pv 6))))
  (pss_cons (ps_set (i := 8) sc__read_step.nd rfl (.inl rfl) (pe_callTy cr_tupOf (by rfl) T.n_tuple (by decide +kernel) (pa_cons (pe_slice sl_list (pv 2) (po_some (pv 6)) po_none) pa_nil)))
  (pss_one (ps_ret (pe_tup (pa_cons (pv 4) (StX.pa_star (pv 7) (pa_cons (pv 8) pa_nil))))))))))))))),
  ((st_seq (st_asg (vs := [1, 2]) (ev_var 0) (tg_headRest (tg_name 1 (by decide)) (tg_name 2 (by decide))))
  (st_seq (st_set 3 (ev_list fl_sortedK))
  (st_seq (st_if (et_test (ev_op rd_ge' (ev_var 1) (ev_cb cd_len (ea_cons (ev_var 3) ea_nil))))
  (st_ret ev_non)
  st_next)
  (st_seq (st_set 4 (ev_op rd_ix (ev_var 3) (ev_var 1)))
  (st_seq (st_set 5 (ev_getK T.C_PARTS (ev_var 4)))
  (st_seq (st_if (et_test (ev_op (rd_inT (neg := true)) ev_str (ev_var 5)))
  (st_ret (ev_tup (ea_cons (ev_var 4) (ea_star (ev_var 2) ea_nil))))
  st_next)
  (st_seq (st_set 6 (ev_op rd_sub (ev_cb cd_len (ea_cons (ev_var 5) ea_nil)) ev_int))
  (st_seq (st_set 7 (ev_list (fl_sl (ev_var 2) po_no (po_part (ev_var 6)))))
  (st_seq (st_set 8 (ev_cb cd_tupOf (ea_cons (ev_list (fl_sl (ev_var 2) (po_part (ev_var 6)) po_no)) ea_nil)))
  (st_ret (ev_tup (ea_cons (ev_var 4) (ea_star (ev_var 7) (ea_cons (ev_var 8) ea_nil)))))))))))))) : TSm K _ b__read_step)⟩
theorem ok_code_in (T : Tx K w mg) : FnOk P w K mg base CX0 6 T.f_code_in T.d_code_in ["records"] (spM K 1 m_code_in) :=
  def_ok (N := N_code_in) T.F_code_in sc_code_in fun cdv A outer s H E hr => ⟨_,
  (pss_cons (ps_if (PW.pt (pw_or (pt_not (pt_tr (pe_callB call_isi (by rfl) T.n_isinstance (by decide +kernel) (pa_cons (pv 0) (pa_cons (pe_bltn (v := .ty "tuple") (by rfl) T.n_tuple (by decide +kernel) rfl) pa_nil))) (fun _ => rfl))) (pw_or1 (pt_not (pt_tr (pe_callB (cr_all rfl) (by rfl) T.n_all (by decide +kernel) (pa_cons (pe_lc (own := [("record", 2)]) (g := gName 2) (tt := tYes) rfl sc_code_in.nd (pi_any (pv 0)) (blkOk_by (N := N_code_in) (sc := defScope s_code_in) (by decide +kernel)) (fun _ _ _ _ _ => (pg_name (i := 2) sc_code_in.nd rfl (.inl rfl))) (fun _ _ _ _ _ => pts_nil) (fun _ _ _ _ _ => (pe_call (ok_is_record T) (hr.mono (by decide)) (by rfl) T.g_is_record T.F_is_record.kp T.b_is_record .nil pass0 (pa_cons (pv 2) pa_nil)))) pa_nil)) (fun _ => rfl)))))) (pss_one (ps_ret pe_non)) pss_nil)
  (pss_cons (ps_set (i := 1) sc_code_in.nd rfl (.inl rfl) (pe_callTy cr_tupOf (by rfl) T.n_tuple (by decide +kernel) (pa_cons (pe_lc (own := [("record", 2)]) (g := gName 2) (tt := tYes) rfl sc_code_in.nd (pi_any (pv 0)) (blkOk_by (N := N_code_in) (sc := defScope s_code_in) (by decide +kernel)) (fun _ _ _ _ _ => (pg_name (i := 2) sc_code_in.nd rfl (.inl rfl))) (fun _ _ _ _ _ => pts_nil) (fun _ _ _ _ _ => (pe_call (ok__read_step T) (hr.mono (by decide)) (by rfl) T.g__read_step T.F__read_step.kp T.b__read_step .nil pass0 (pa_cons (pv 2) pa_nil)))) pa_nil)))
  (pss_one (ps_ret (pe_ifExp (pt_tr (pe_call (ok_is_code T) (hr.mono (by decide)) (by rfl) T.g_is_code T.F_is_code.kp T.b_is_code .nil pass0 (pa_cons (pv 1) pa_nil)) (fun _ => rfl)) (pv 1) pe_non))))),
  ((st_seq (st_if (et_or (et_not (et_tru (ev_isi cls_tuple (ev_var 0)))) (et_not (et_tru (ev_cb cd_all (ea_cons (ev_list (fl_lc (vs := [2]) (it_any (ev_var 0)) (tg_name 2 (by decide)) et_yes (ev_call' (ea_cons (ev_var 2) ea_nil)))) ea_nil)))))
  (st_ret ev_non)
  st_next)
  (st_seq (st_set 1 (ev_cb cd_tupOf (ea_cons (ev_list (fl_lc (vs := [2]) (it_any (ev_var 0)) (tg_name 2 (by decide)) et_yes (ev_call' (ea_cons (ev_var 2) ea_nil)))) ea_nil)))
  (st_ret (ev_if (et_tru (ev_call' (ea_cons (ev_var 1) ea_nil))) (ev_var 1) ev_non)))) : TSm K _ b_code_in)⟩
theorem ok__law_pick (T : Tx K w mg) : FnOk P w K mg base CX0 1 T.f__law_pick T.d__law_pick ["_law_script", "_law_k", "_law_many"] (spM K 3 m__law_pick) :=
  def_ok (N := N__law_pick) T.F__law_pick sc__law_pick fun cdv A outer s H E hr => ⟨_,
  (pss_cons (ps_set (i := 3) sc__law_pick.nd rfl (.inl rfl) (pe_ifExp (pt_cmpR (op_neD hr.units) (pv 0) (pe_lst pa_nil) (nomark _)) (pe_ix ix_seq (pv 0) (pe_op op_mod (pv 1) (pe_callB cr_len (by rfl) T.n_len (by decide +kernel) (pa_cons (pv 0) pa_nil))) (fun _ _ => rfl)) pe_int))
  (pss_cons (ps_par (i := 4) (j := 5) rfl sc__law_pick.nd rfl rfl (by decide) rfl rfl (pa_cons (pe_op op_fdivW (pv 3) (pe_op op_pow pe_int pe_int)) (pa_cons (pe_op op_fdivW (pv 1) (pe_callB (cr_max2 rfl) (by rfl) T.n_max (by decide +kernel) (pa_cons (pe_callB cr_len (by rfl) T.n_len (by decide +kernel) (pa_cons (pv 0) pa_nil)) (pa_cons pe_int pa_nil)))) pa_nil)) (by rfl))
  (pss_cons (ps_while PassesOwn.never (PW.pt (pw_and (pt_cmpR op_gt (pv 4) pe_int (nomark _)) (pw_and1 (pt_cmpR op_gt (pv 5) pe_int (nomark _))))) (pss_one (ps_par (i := 4) (j := 5) rfl sc__law_pick.nd rfl rfl (by decide) rfl rfl (pa_cons (pe_op op_fdivW (pv 4) pe_int) (pa_cons (pe_op op_sub (pv 5) pe_int) pa_nil)) (by rfl))))
  (pss_cons (ps_if (pt_cmpR op_gt (pv 4) pe_int (nomark _)) (pss_one (ps_ret (pe_op op_mod (pe_op op_mod (pv 4) pe_int) (pv 2)))) pss_nil)
  (pss_cons (ps_set (i := 6) sc__law_pick.nd rfl (.inl rfl) (pe_op op_mod (pe_op op_mulA (pe_op op_addA (pe_op op_mulA (pv 3) pe_int) (pe_op op_mulA pe_int (pe_op op_addA (pv 1) pe_int))) pe_int) pe_int))
  (pss_one (ps_ret (pe_op op_mod (pe_op op_mod (pe_op op_addA (pe_op op_mulA (pv 6) (pv 6)) (pe_op op_fdivW (pv 6) pe_int)) pe_int) (pv 2))))))))),
  ((st_seq (st_set 3 (ev_if (et_test (ev_op rd_ne (ev_var 0) (ev_list (fl_lst ea_nil)))) (ev_op rd_ix (ev_var 0) (ev_op rd_mod (ev_var 1) (ev_cb cd_len (ea_cons (ev_var 0) ea_nil)))) ev_int))
  (st_seq (st_par (ev_op rd_fdiv (ev_var 3) (ev_op rd_pow ev_int ev_int)) (ev_op rd_fdiv (ev_var 1) (ev_cb cd_max2 (ea_cons (ev_cb cd_len (ea_cons (ev_var 0) ea_nil)) (ea_cons ev_int ea_nil)))))
  (st_seq (st_while fuel__law_pick_0 (et_and (et_test (ev_op rd_gt' (ev_var 4) ev_int)) (et_test (ev_op rd_gt' (ev_var 5) ev_int)))
  (st_par (ev_op rd_fdiv (ev_var 4) ev_int) (ev_op rd_sub (ev_var 5) ev_int)))
  (st_seq (st_if (et_test (ev_op rd_gt' (ev_var 4) ev_int))
  (st_ret (ev_op rd_mod (ev_op rd_mod (ev_var 4) ev_int) (ev_var 2)))
  st_next)
  (st_seq (st_set 6 (ev_op rd_mod (ev_op rd_mul (ev_op rd_add (ev_op rd_mul (ev_var 3) ev_int) (ev_op rd_mul ev_int (ev_op rd_add (ev_var 1) ev_int))) ev_int) ev_int))
  (st_ret (ev_op rd_mod (ev_op rd_mod (ev_op rd_add (ev_op rd_mul (ev_var 6) (ev_var 6)) (ev_op rd_fdiv (ev_var 6) ev_int)) ev_int) (ev_var 2)))))))) : TSm K _ b__law_pick)⟩
theorem ok__law_step_code (T : Tx K w mg) : FnOk P w K mg base CX0 2 T.f__law_step_code T.d__law_step_code ["_law_script", "_law_at", "_law_many"] (spM K 3 m__law_step_code) :=
  def_ok (N := N__law_step_code) T.F__law_step_code sc__law_step_code fun cdv A outer s H E hr => ⟨_,
  (pss_cons (ps_set (i := 3) sc__law_step_code.nd rfl (.inl rfl) (pe_call (ok__law_pick T) (hr.mono (by decide)) (by rfl) T.g__law_pick T.F__law_pick.kp T.b__law_pick .nil pass0 (pa_cons (pv 0) (pa_cons (pv 1) (pa_cons pe_int pa_nil)))))
  (pss_cons (ps_asg (pe_lc (own := [("_law_k", 10)]) (g := gName 10) (tt := tYes) rfl sc__law_step_code.nd (pi_range1 (by rfl) T.n_range (pa_cons pe_int pa_nil)) (blkOk_by (N := N__law_step_code) (sc := defScope s__law_step_code) (by decide +kernel)) (fun _ _ _ _ _ => (pg_name (i := 10) sc__law_step_code.nd rfl (.inl rfl))) (fun _ _ _ _ _ => pts_nil) (fun _ _ _ _ _ => (pe_call (ok__law_pick T) (hr.mono (by decide)) (by rfl) T.g__law_pick T.F__law_pick.kp T.b__law_pick .nil pass0 (pa_cons (pv 0) (pa_cons (pe_op op_addA (pe_op op_addA (pv 1) pe_int) (pv 10)) (pa_cons pe_int pa_nil)))))) (pg_lst rfl (pgs_cons (pg_name (i := 4) sc__law_step_code.nd rfl (.inl rfl)) (pgs_cons (pg_name (i := 5) sc__law_step_code.nd rfl (.inl rfl)) (pgs_cons (pg_name (i := 6) sc__law_step_code.nd rfl (.inl rfl)) pgs_nil)))))
  (pss_cons (ps_set (i := 7) sc__law_step_code.nd rfl (.inl rfl) (pe_call (ok__law_pick T) (hr.mono (by decide)) (by rfl) T.g__law_pick T.F__law_pick.kp T.b__law_pick .nil pass0 (pa_cons (pv 0) (pa_cons (pe_op op_addA (pv 1) pe_int) (pa_cons (pv 2) pa_nil)))))
  (pss_cons (ps_if (pt_cmpR op_lt (pv 3) pe_int (nomark _)) (pss_one (ps_ret (pe_tup (pa_cons pe_str (pa_cons (pv 4) (pa_cons (pe_ix ix_seq (pe_lst (pa_cons pe_int (pa_cons pe_int (pa_cons pe_int (pa_cons pe_int (pa_cons pe_int pa_nil)))))) (pe_call (ok__law_pick T) (hr.mono (by decide)) (by rfl) T.g__law_pick T.F__law_pick.kp T.b__law_pick .nil pass0 (pa_cons (pv 0) (pa_cons (pe_op op_addA (pv 1) pe_int) (pa_cons pe_int pa_nil)))) (fun _ _ => rfl)) pa_nil)))))) pss_nil)
  (pss_cons (ps_if (pt_cmpR op_lt (pv 3) pe_int (nomark _)) (pss_cons (ps_set (i := 8) sc__law_step_code.nd rfl (.inl rfl) (pe_ix ix_seq (pe_lst (pa_cons pe_str (pa_cons pe_str (pa_cons pe_str (pa_cons pe_str (pa_cons pe_str (pa_cons pe_str (pa_cons pe_str pa_nil)))))))) (pe_call (ok__law_pick T) (hr.mono (by decide)) (by rfl) T.g__law_pick T.F__law_pick.kp T.b__law_pick .nil pass0 (pa_cons (pv 0) (pa_cons (pe_op op_addA (pv 1) pe_int) (pa_cons pe_int pa_nil)))) (fun _ _ => rfl)))
  (pss_one (ps_ret (pe_tup (pa_cons (pv 8) (pa_cons (pv 4) (pa_cons (pv 5) (pa_cons (pv 6) pa_nil)))))))) pss_nil)
  (pss_cons (ps_set (i := 9) sc__law_step_code.nd rfl (.inl rfl) (pe_lst (pa_cons (pe_tup (pa_cons pe_str (pa_cons (pv 4) (pa_cons (pv 5) pa_nil)))) (pa_cons (pe_tup (pa_cons pe_str (pa_cons (pv 4) (pa_cons (pv 7) pa_nil)))) (pa_cons (pe_tup (pa_cons pe_str (pa_cons pe_int pa_nil))) (pa_cons (pe_tup (pa_cons pe_str (pa_cons (pe_op op_mod (pv 4) pe_int) pa_nil))) (pa_cons (pe_tup (pa_cons pe_str (pa_cons (pe_op op_mod (pv 4) pe_int) (pa_cons (pv 7) pa_nil)))) (pa_cons (pe_tup (pa_cons pe_str (pa_cons (pv 4) (pa_cons pe_int (pa_cons (pe_op op_mod (pv 6) pe_int) pa_nil))))) pa_nil))))))))
  (pss_cons (ps_expr (pe_bm PySem.F.plainAttrs_list PySem.F.slot_list_extend PySem.F.type_list_extend mt_extend (pv 9) (pa_cons (pe_lst (pa_cons (pe_tup (pa_cons pe_str (pa_cons (pv 4) (pa_cons (pe_op op_mod (pv 5) pe_int) (pa_cons (pv 6) pa_nil))))) (pa_cons (pe_tup (pa_cons pe_str (pa_cons pe_int (pa_cons (pe_tup (pa_cons (pv 5) (pa_cons (pv 6) pa_nil))) pa_nil)))) (pa_cons (pe_tup (pa_cons pe_str (pa_cons (pe_op op_mod (pv 4) pe_int) (pa_cons (pe_tup (pa_cons (pv 5) pa_nil)) pa_nil)))) (pa_cons (pe_tup (pa_cons pe_str (pa_cons (pe_tup (pa_cons (pv 4) pa_nil)) pa_nil))) pa_nil))))) pa_nil)))
  (pss_cons (ps_expr (pe_bm PySem.F.plainAttrs_list PySem.F.slot_list_extend PySem.F.type_list_extend mt_extend (pv 9) (pa_cons (pe_lst (pa_cons (pe_tup (pa_cons pe_str (pa_cons (pe_tup (pa_cons (pv 5) (pa_cons (pv 6) pa_nil))) pa_nil))) (pa_cons (pe_tup (pa_cons pe_str (pa_cons (pv 7) pa_nil))) pa_nil))) pa_nil)))
  (pss_one (ps_ret (pe_ix ix_seq (pv 9) (pe_op op_sub (pv 3) pe_int) (fun _ _ => rfl)))))))))))),
  ((st_seq (st_set 3 (ev_call' (ea_cons (ev_var 0) (ea_cons (ev_var 1) (ea_cons ev_int ea_nil)))))
  (st_seq (st_asg (vs := [4, 5, 6]) (ev_list (fl_lc (vs := [10]) (it_range1' (ea_cons ev_int ea_nil)) (tg_name 10 (by decide)) et_yes (ev_call' (ea_cons (ev_var 0) (ea_cons (ev_op rd_add (ev_op rd_add (ev_var 1) ev_int) (ev_var 10)) (ea_cons ev_int ea_nil)))))) (tg_lst (tgs_cons (tg_name 4 (by decide)) (tgs_cons (tg_name 5 (by decide)) (tgs_cons (tg_name 6 (by decide)) tgs_nil)))))
  (st_seq (st_set 7 (ev_call' (ea_cons (ev_var 0) (ea_cons (ev_op rd_add (ev_var 1) ev_int) (ea_cons (ev_var 2) ea_nil)))))
  (st_seq (st_if (et_test (ev_op rd_lt' (ev_var 3) ev_int))
  (st_ret (ev_tup (ea_cons ev_str (ea_cons (ev_var 4) (ea_cons (ev_op rd_ix (ev_list (fl_lst (ea_cons ev_int (ea_cons ev_int (ea_cons ev_int (ea_cons ev_int (ea_cons ev_int ea_nil))))))) (ev_call' (ea_cons (ev_var 0) (ea_cons (ev_op rd_add (ev_var 1) ev_int) (ea_cons ev_int ea_nil))))) ea_nil)))))
  st_next)
  (st_seq (st_if (et_test (ev_op rd_lt' (ev_var 3) ev_int))
  (st_seq (st_set 8 (ev_op rd_ix (ev_list (fl_lst (ea_cons ev_str (ea_cons ev_str (ea_cons ev_str (ea_cons ev_str (ea_cons ev_str (ea_cons ev_str (ea_cons ev_str ea_nil))))))))) (ev_call' (ea_cons (ev_var 0) (ea_cons (ev_op rd_add (ev_var 1) ev_int) (ea_cons ev_int ea_nil))))))
  (st_ret (ev_tup (ea_cons (ev_var 8) (ea_cons (ev_var 4) (ea_cons (ev_var 5) (ea_cons (ev_var 6) ea_nil)))))))
  st_next)
  (st_seq (st_own 9 (fl_lst (ea_cons (ev_tup (ea_cons ev_str (ea_cons (ev_var 4) (ea_cons (ev_var 5) ea_nil)))) (ea_cons (ev_tup (ea_cons ev_str (ea_cons (ev_var 4) (ea_cons (ev_var 7) ea_nil)))) (ea_cons (ev_tup (ea_cons ev_str (ea_cons ev_int ea_nil))) (ea_cons (ev_tup (ea_cons ev_str (ea_cons (ev_op rd_mod (ev_var 4) ev_int) ea_nil))) (ea_cons (ev_tup (ea_cons ev_str (ea_cons (ev_op rd_mod (ev_var 4) ev_int) (ea_cons (ev_var 7) ea_nil)))) (ea_cons (ev_tup (ea_cons ev_str (ea_cons (ev_var 4) (ea_cons ev_int (ea_cons (ev_op rd_mod (ev_var 6) ev_int) ea_nil))))) ea_nil))))))))
  (st_seq (st_extend (i := 9) (fl_lst (ea_cons (ev_tup (ea_cons ev_str (ea_cons (ev_var 4) (ea_cons (ev_op rd_mod (ev_var 5) ev_int) (ea_cons (ev_var 6) ea_nil))))) (ea_cons (ev_tup (ea_cons ev_str (ea_cons ev_int (ea_cons (ev_tup (ea_cons (ev_var 5) (ea_cons (ev_var 6) ea_nil))) ea_nil)))) (ea_cons (ev_tup (ea_cons ev_str (ea_cons (ev_op rd_mod (ev_var 4) ev_int) (ea_cons (ev_tup (ea_cons (ev_var 5) ea_nil)) ea_nil)))) (ea_cons (ev_tup (ea_cons ev_str (ea_cons (ev_tup (ea_cons (ev_var 4) ea_nil)) ea_nil))) ea_nil))))))
  (st_seq (st_extend (i := 9) (fl_lst (ea_cons (ev_tup (ea_cons ev_str (ea_cons (ev_tup (ea_cons (ev_var 5) (ea_cons (ev_var 6) ea_nil))) ea_nil))) (ea_cons (ev_tup (ea_cons ev_str (ea_cons (ev_var 7) ea_nil))) ea_nil))))
  (st_frz 9 (st_ret (ev_op rd_ix (ev_var 9) (ev_op rd_sub (ev_var 3) ev_int)))))))))))) : TSm K _ b__law_step_code)⟩
theorem ok__law_code (T : Tx K w mg) : FnOk P w K mg base CX0 3 T.f__law_code T.d__law_code ["_law_script", "_law_at"] (spM K 2 m__law_code) :=
  def_ok (N := N__law_code) T.F__law_code sc__law_code fun cdv A outer s H E hr => ⟨_,
  (pss_cons (ps_set (i := 2) sc__law_code.nd rfl (.inr rfl) (pe_op op_addA pe_int (pe_call (ok__law_pick T) (hr.mono (by decide)) (by rfl) T.g__law_pick T.F__law_pick.kp T.b__law_pick .nil pass0 (pa_cons (pv 0) (pa_cons (pv 1) (pa_cons pe_int pa_nil))))))
  (pss_cons (ps_setLc (i := 3) (own := [("_law_k", 4)]) (g := gName 4) (tt := tYes) rfl sc__law_code.nd rfl rfl (sw_true rfl rfl rfl (by decide +kernel)) (pi_range1 (by rfl) T.n_range (pa_cons (pe_op op_sub (pv 2) pe_int) pa_nil)) (blkOk_by (N := N__law_code) (sc := defScope s__law_code) (by decide +kernel)) (fun _ _ _ _ _ => (pg_name (i := 4) sc__law_code.nd rfl (.inl rfl))) (fun _ _ _ _ _ => pts_nil) (fun _ _ _ _ _ => (pe_call (ok__law_step_code T) (hr.mono (by decide)) (by rfl) T.g__law_step_code T.F__law_step_code.kp T.b__law_step_code .nil pass0 (pa_cons (pv 0) (pa_cons (pe_op op_addA (pe_op op_addA (pv 1) pe_int) (pe_op op_mulA pe_int (pv 4))) (pa_cons (pv 2) pa_nil))))))
  (pss_one (ps_ret (pe_op op_addA (pe_callTy cr_tupOf (by rfl) T.n_tuple (by decide +kernel) (pa_cons (pv 3) pa_nil)) (pe_tup (pa_cons (pe_tup (pa_cons pe_str (pa_cons pe_int pa_nil))) pa_nil))))))),
  ((st_seq (st_set 2 (ev_op rd_add ev_int (ev_call' (ea_cons (ev_var 0) (ea_cons (ev_var 1) (ea_cons ev_int ea_nil))))))
  (st_seq (st_set 3 (ev_list (fl_lc (vs := [4]) (it_range1' (ea_cons (ev_op rd_sub (ev_var 2) ev_int) ea_nil)) (tg_name 4 (by decide)) et_yes (ev_call' (ea_cons (ev_var 0) (ea_cons (ev_op rd_add (ev_op rd_add (ev_var 1) ev_int) (ev_op rd_mul ev_int (ev_var 4))) (ea_cons (ev_var 2) ea_nil)))))))
  (st_ret (ev_op rd_add (ev_cb cd_tupOf (ea_cons (ev_var 3) ea_nil)) (ev_tup (ea_cons (ev_tup (ea_cons ev_str (ea_cons ev_int ea_nil))) ea_nil)))))) : TSm K _ b__law_code)⟩
theorem ok_law (T : Tx K w mg) : FnOk P w K mg base CX0 8 T.f_law T.d_law ["_law_script"] (spM K 1 m_law) :=
  def_ok (N := N_law) T.F_law sc_law fun cdv A outer s H E hr => ⟨_,
  (pss_cons (ps_par (i := 1) (j := 2) rfl sc_law.nd rfl rfl (by decide) rfl rfl (pa_cons (pe_call (ok__law_code T) (hr.mono (by decide)) (by rfl) T.g__law_code T.F__law_code.kp T.b__law_code .nil pass0 (pa_cons (pv 0) (pa_cons pe_int pa_nil))) (pa_cons (pe_lst (pa_cons pe_str (pa_cons pe_str (pa_cons pe_str (pa_cons pe_str (pa_cons pe_str (pa_cons pe_str (pa_cons pe_str (pa_cons pe_str (pa_cons pe_str (pa_cons pe_str (pa_cons pe_str pa_nil)))))))))))) pa_nil)) (by rfl))
  (pss_cons (ps_set (i := 2) sc_law.nd rfl (.inl rfl) (pe_callB cr_sortedS (by rfl) T.n_sorted (by decide +kernel) (pa_cons (pe_op op_catX (pv 2) (pe_lst (pa_cons pe_str (pa_cons pe_str (pa_cons pe_str (pa_cons pe_str (pa_cons pe_str (pa_cons pe_str (pa_cons pe_str pa_nil))))))))) pa_nil)))
  (pss_cons (ps_if (PW.pt (pw_or (pt_cmpR op_notA (pe_call (ok_is_code T) (hr.mono (by decide)) (by rfl) T.g_is_code T.F_is_code.kp T.b_is_code .nil pass0 (pa_cons (pv 1) pa_nil)) pe_bl (nomark _)) (pw_or (pt_cmpR op_notA (pe_call (ok_is_code T) (hr.mono (by decide)) (by rfl) T.g_is_code T.F_is_code.kp T.b_is_code .nil pass0 (pa_cons (pe_op op_addA (pv 1) (pe_tup (pa_cons (pe_tup (pa_cons pe_str pa_nil)) pa_nil))) pa_nil)) pe_bl (nomark _)) (pw_or1 (pt_cmpR op_notA (pe_call (ok_is_code T) (hr.mono (by decide)) (by rfl) T.g_is_code T.F_is_code.kp T.b_is_code .nil pass0 (pa_cons (pe_callTy cr_lstOf (by rfl) T.n_list (by decide +kernel) (pa_cons (pv 1) pa_nil)) pa_nil)) pe_bl (nomark _)))))) (pss_one (ps_ret pe_bl)) pss_nil)
  (pss_cons (ps_set (i := 3) sc_law.nd rfl (.inl rfl) (pe_lst pa_nil))
  (pss_cons (ps_for PassesOwn.never rfl (pi_any (pv 1)) (pg_name (i := 4) sc_law.nd rfl (.inl rfl)) (pss_cons (ps_set (i := 5) sc_law.nd rfl (.inl rfl) (pe_lst (pa_cons (pe_bm PySem.F.plainAttrs_list PySem.F.slot_list_index PySem.F.type_list_index (mt_indexD (hu65 hr)) (pv 2) (pa_cons (pe_ix ix_seq (pv 4) pe_int (fun _ _ => rfl)) pa_nil)) pa_nil)))
  (pss_cons (ps_for PassesOwn.never rfl (pi_any (pe_slice sl_any (pv 4) (po_some pe_int) po_none)) (pg_name (i := 6) sc_law.nd rfl (.inl rfl)) (pss_one (ps_expr (pe_bm PySem.F.plainAttrs_list PySem.F.slot_list_extend PySem.F.type_list_extend mt_extend (pv 5) (pa_cons (pe_ifExp (pt_tr (pe_callB call_isi (by rfl) T.n_isinstance (by decide +kernel) (pa_cons (pv 6) (pa_cons (pe_bltn (v := .ty "tuple") (by rfl) T.n_tuple (by decide +kernel) rfl) pa_nil))) (fun _ => rfl)) (pe_callTy cr_lstOf (by rfl) T.n_list (by decide +kernel) (pa_cons (pv 6) pa_nil)) (pe_lst (pa_cons (pv 6) pa_nil))) pa_nil)))))
  (pss_one (ps_expr (pe_bm PySem.F.plainAttrs_list PySem.F.slot_list_append PySem.F.type_list_append mt_append (pv 3) (pa_cons (pe_callTy cr_tupOf (by rfl) T.n_tuple (by decide +kernel) (pa_cons (pv 5) pa_nil)) pa_nil)))))))
  (pss_cons (ps_set (i := 7) sc_law.nd rfl (.inr rfl) (pe_call (ok_code_records T) (hr.mono (by decide)) (by rfl) T.g_code_records T.F_code_records.kp T.b_code_records .nil pass0 (pa_cons (pv 1) pa_nil)))
  (pss_cons (ps_if (PW.pt (pw_or (pt_cmpR (op_neD hr.units) (pv 7) (pe_callTy cr_tupOf (by rfl) T.n_tuple (by decide +kernel) (pa_cons (pv 3) pa_nil)) (nomark _)) (pw_or (pt_cmpR (op_neD hr.units) (pe_call (ok_code_in T) (hr.mono (by decide)) (by rfl) T.g_code_in T.F_code_in.kp T.b_code_in .nil pass0 (pa_cons (pv 7) pa_nil)) (pv 1) (nomark _)) (pw_or1 (pt_not (pt_tr (pe_call (ok_are_records T) (hr.mono (by decide)) (by rfl) T.g_are_records T.F_are_records.kp T.b_are_records .nil pass0 (pa_cons (pv 7) pa_nil)) (fun _ => rfl))))))) (pss_one (ps_ret pe_bl)) pss_nil)
  (pss_cons (ps_setLc (i := 8) (own := [("_law_step", 4)]) (g := gName 4) (tt := _) rfl sc_law.nd rfl rfl (sw_true rfl rfl rfl (by decide +kernel)) (pi_any (pv 1)) (blkOk_by (N := N_law) (sc := defScope s_law) (by decide +kernel)) (fun _ _ _ _ _ => (pg_name (i := 4) sc_law.nd rfl (.inl rfl))) (fun _ _ _ _ _ => pts_one (pt_cmpR (op_inD (hu65 hr)) (pe_ix ix_seq (pv 4) pe_int (fun _ _ => rfl)) (pe_lst (pa_cons pe_str (pa_cons pe_str pa_nil))) (by with_unfolding_all rfl))) (fun _ _ _ _ _ => (pe_ix ix_seq (pv 4) pe_int (fun _ _ => rfl))))
  (pss_cons (ps_expr (pe_bm PySem.F.plainAttrs_list PySem.F.slot_list_extend PySem.F.type_list_extend mt_extend (pv 8) (pa_cons (pe_lc (own := [("_law_step", 4)]) (g := gName 4) (tt := _) rfl sc_law.nd (pi_any (pv 1)) (blkOk_by (N := N_law) (sc := defScope s_law) (by decide +kernel)) (fun _ _ _ _ _ => (pg_name (i := 4) sc_law.nd rfl (.inl rfl))) (fun _ _ _ _ _ => pts_one (pt_cmpR (op_eqD hr.units) (pe_ix ix_seq (pv 4) pe_int (fun _ _ => rfl)) pe_str (nomark _))) (fun _ _ _ _ _ => (pe_ix ix_seq (pv 4) pe_int (fun _ _ => rfl)))) pa_nil)))
  (pss_cons (ps_set (i := 9) sc_law.nd rfl (.inl rfl) (pe_sortedSet (by rfl) T.n_sorted (by rfl) T.n_set (pe_lc (own := [("_law_step", 4)]) (g := gName 4) (tt := _) rfl sc_law.nd (pi_any (pv 1)) (blkOk_by (N := N_law) (sc := defScope s_law) (by decide +kernel)) (fun _ _ _ _ _ => (pg_name (i := 4) sc_law.nd rfl (.inl rfl))) (fun _ _ _ _ _ => pts_one (pt_cmpR (op_eqD hr.units) (pe_ix ix_seq (pv 4) pe_int (fun _ _ => rfl)) pe_str (nomark _))) (fun _ _ _ _ _ => (pe_ix ix_seq (pv 4) pe_int (fun _ _ => rfl))))))
  (pss_cons (ps_if (pt_cmpR (op_neD hr.units) (pe_call (ok_slots_of T) (hr.mono (by decide)) (by rfl) T.g_slots_of T.F_slots_of.kp T.b_slots_of .nil pass0 (pa_cons (pv 1) pa_nil)) (pe_tup (pa_cons (pe_callTy cr_tupOf (by rfl) T.n_tuple (by decide +kernel) (pa_cons (pe_sortedSet (by rfl) T.n_sorted (by rfl) T.n_set (pv 8)) pa_nil)) (pa_cons (pe_callTy cr_tupOf (by rfl) T.n_tuple (by decide +kernel) (pa_cons (pv 9) pa_nil)) pa_nil))) (nomark _)) (pss_one (ps_ret pe_bl)) pss_nil)
  (pss_cons (ps_set (i := 10) sc_law.nd rfl (.inr rfl) (pe_call (ok__law_pick T) (hr.mono (by decide)) (by rfl) T.g__law_pick T.F__law_pick.kp T.b__law_pick .nil pass0 (pa_cons (pv 0) (pa_cons pe_int (pa_cons (pe_callB cr_len (by rfl) T.n_len (by decide +kernel) (pa_cons (pv 7) pa_nil)) pa_nil)))))
  (pss_cons (ps_setLc (i := 11) (own := [("_law_one", 13)]) (g := gName 13) (tt := tYes) rfl sc_law.nd rfl rfl (sw_true rfl rfl rfl (by decide +kernel)) (pi_any (pe_tup (pa_cons (pe_op op_addA (pe_ix ix_seq (pv 7) (pv 10) (fun _ _ => rfl)) (pe_tup (pa_cons pe_int pa_nil))) (pa_cons (pe_tup (pa_cons pe_int pa_nil)) (pa_cons (pe_slice sl_any (pe_ix ix_seq (pv 7) (pv 10) (fun _ _ => rfl)) po_none (po_some pe_int)) pa_nil))))) (blkOk_by (N := N_law) (sc := defScope s_law) (by decide +kernel)) (fun _ _ _ _ _ => (pg_name (i := 13) sc_law.nd rfl (.inl rfl))) (fun _ _ _ _ _ => pts_nil) (fun _ _ _ _ _ => (pe_op op_addA (pe_op op_addA (pe_slice sl_any (pv 7) po_none (po_some (pv 10))) (pe_tup (pa_cons (pv 13) pa_nil))) (pe_slice sl_any (pv 7) (po_some (pe_op op_addA (pv 10) pe_int)) po_none))))
  (pss_cons (ps_for PassesOwn.never rfl (pi_zipX (by rfl) T.n_zip (pa_cons (pv 11) (pa_cons (pe_lc (own := [("_law_row", 5)]) (g := gName 5) (tt := tYes) rfl sc_law.nd (pi_any (pv 11)) (blkOk_by (N := N_law) (sc := defScope s_law) (by decide +kernel)) (fun _ _ _ _ _ => (pg_name (i := 5) sc_law.nd rfl (.inl rfl))) (fun _ _ _ _ _ => pts_nil) (fun _ _ _ _ _ => (pe_call (ok_code_in T) (hr.mono (by decide)) (by rfl) T.g_code_in T.F_code_in.kp T.b_code_in .nil pass0 (pa_cons (pv 5) pa_nil)))) pa_nil))) (pg_tup rfl (pgs_cons (pg_name (i := 5) sc_law.nd rfl (.inl rfl)) (pgs_cons (pg_name (i := 12) sc_law.nd rfl (.inl rfl)) pgs_nil))) (pss_one (ps_if (PW.pt (pw_and (pt_cmpR op_notA (pv 12) pe_non (nomark _)) (pw_and1 (PW.pt (pw_or (pt_cmpR (op_neD hr.units) (pe_call (ok_code_records T) (hr.mono (by decide)) (by rfl) T.g_code_records T.F_code_records.kp T.b_code_records .nil pass0 (pa_cons (pv 12) pa_nil)) (pv 5) (nomark _)) (pw_or1 (pt_cmpR (op_eqD hr.units) (pv 12) (pv 1) (nomark _)))))))) (pss_one (ps_ret pe_bl)) pss_nil)))
  (pss_one (ps_ret (pe_and (pe_cmpR op_isA (pe_call (ok_code_in T) (hr.mono (by decide)) (by rfl) T.g_code_in T.F_code_in.kp T.b_code_in .nil pass0 (pa_cons (pe_op op_addA (pe_op op_addA (pe_slice sl_any (pv 7) po_none (po_some (pv 10))) (pe_tup (pa_cons (pe_tup (pa_cons pe_int pa_nil)) pa_nil))) (pe_slice sl_any (pv 7) (po_some (pe_op op_addA (pv 10) pe_int)) po_none)) pa_nil)) pe_non (nomark _)) (pe_one (pe_cmpR op_isA (pe_call (ok_code_in T) (hr.mono (by decide)) (by rfl) T.g_code_in T.F_code_in.kp T.b_code_in .nil pass0 (pa_cons (pe_tup pa_nil) pa_nil)) pe_non (nomark _)))))))))))))))))))),
  ((st_seq (st_par (ev_call' (ea_cons (ev_var 0) (ea_cons ev_int ea_nil))) (ev_list (fl_lst (ea_cons ev_str (ea_cons ev_str (ea_cons ev_str (ea_cons ev_str (ea_cons ev_str (ea_cons ev_str (ea_cons ev_str (ea_cons ev_str (ea_cons ev_str (ea_cons ev_str (ea_cons ev_str ea_nil))))))))))))))
  (st_seq (st_set 2 (ev_list (fl_cb cl_sortedS (ea_cons (ev_list (fl_catV (ev_var 2) (fl_lst (ea_cons ev_str (ea_cons ev_str (ea_cons ev_str (ea_cons ev_str (ea_cons ev_str (ea_cons ev_str (ea_cons ev_str ea_nil)))))))))) ea_nil))))
  (st_seq (st_if (et_or (et_test (ev_op rd_isnot (ev_call' (ea_cons (ev_var 1) ea_nil)) ev_bl)) (et_or (et_test (ev_op rd_isnot (ev_call' (ea_cons (ev_op rd_add (ev_var 1) (ev_tup (ea_cons (ev_tup (ea_cons ev_str ea_nil)) ea_nil))) ea_nil)) ev_bl)) (et_test (ev_op rd_isnot (ev_call' (ea_cons (ev_list (fl_cb cl_lstOf (ea_cons (ev_var 1) ea_nil))) ea_nil)) ev_bl))))
  (st_ret ev_bl)
  st_next)
  (st_seq (st_own 3 (fl_lst ea_nil))
  (st_seq (st_for (vs := [4]) (it_any (ev_var 1)) (tg_name 4 (by decide))
  (st_seq (st_own 5 (fl_lst (ea_cons (ev_index (ev_var 2) (ev_op rd_ix (ev_var 4) ev_int)) ea_nil)))
  (st_seq (st_for (vs := [6]) (it_any (ev_sl (ev_var 4) (po_part ev_int) po_no)) (tg_name 6 (by decide))
  (st_extend (i := 5) (fl_if (et_tru (ev_isi cls_tuple (ev_var 6))) (fl_cb cl_lstOf (ea_cons (ev_var 6) ea_nil)) (fl_lst (ea_cons (ev_var 6) ea_nil)))))
  (st_frz 5 (st_append (i := 3) (ev_cb cd_tupOf (ea_cons (ev_var 5) ea_nil)))))))
  (st_seq (st_set 7 (ev_call' (ea_cons (ev_var 1) ea_nil)))
  (st_seq (st_frz 3 (st_if (et_or (et_test (ev_op rd_ne (ev_var 7) (ev_cb cd_tupOf (ea_cons (ev_var 3) ea_nil)))) (et_or (et_test (ev_op rd_ne (ev_call' (ea_cons (ev_var 7) ea_nil)) (ev_var 1))) (et_not (et_tru (ev_call' (ea_cons (ev_var 7) ea_nil))))))
  (st_ret ev_bl)
  st_next))
  (st_seq (st_own 8 (fl_lc (vs := [4]) (it_any (ev_var 1)) (tg_name 4 (by decide)) (et_test (ev_op rd_inL (ev_op rd_ix (ev_var 4) ev_int) (ev_list (fl_lst (ea_cons ev_str (ea_cons ev_str ea_nil)))))) (ev_op rd_ix (ev_var 4) ev_int)))
  (st_seq (st_extend (i := 8) (fl_lc (vs := [4]) (it_any (ev_var 1)) (tg_name 4 (by decide)) (et_test (ev_op rd_eq (ev_op rd_ix (ev_var 4) ev_int) ev_str)) (ev_op rd_ix (ev_var 4) ev_int)))
  (st_seq (st_set 9 (ev_list (fl_sortedSet (ev_list (fl_lc (vs := [4]) (it_any (ev_var 1)) (tg_name 4 (by decide)) (et_test (ev_op rd_eq (ev_op rd_ix (ev_var 4) ev_int) ev_str)) (ev_op rd_ix (ev_var 4) ev_int))))))
  (st_seq (st_frz 8 (st_if (et_test (ev_op rd_ne (ev_call' (ea_cons (ev_var 1) ea_nil)) (ev_tup (ea_cons (ev_cb cd_tupOf (ea_cons (ev_list (fl_sortedSet (ev_var 8))) ea_nil)) (ea_cons (ev_cb cd_tupOf (ea_cons (ev_var 9) ea_nil)) ea_nil)))))
  (st_ret ev_bl)
  st_next))
  (st_seq (st_set 10 (ev_call' (ea_cons (ev_var 0) (ea_cons ev_int (ea_cons (ev_cb cd_len (ea_cons (ev_var 7) ea_nil)) ea_nil)))))
  (st_seq (st_set 11 (ev_list (fl_lc (vs := [13]) (it_any (ev_tup (ea_cons (ev_op rd_add (ev_op rd_ix (ev_var 7) (ev_var 10)) (ev_tup (ea_cons ev_int ea_nil))) (ea_cons (ev_tup (ea_cons ev_int ea_nil)) (ea_cons (ev_sl (ev_op rd_ix (ev_var 7) (ev_var 10)) po_no (po_part ev_int)) ea_nil))))) (tg_name 13 (by decide)) et_yes (ev_op rd_add (ev_op rd_add (ev_sl (ev_var 7) po_no (po_part (ev_var 10))) (ev_tup (ea_cons (ev_var 13) ea_nil))) (ev_sl (ev_var 7) (po_part (ev_op rd_add (ev_var 10) ev_int)) po_no)))))
  (st_seq (st_frz 5 (st_for (vs := [5, 12]) (it_zipX (ea_cons (ev_var 11) (ea_cons (ev_list (fl_lc (vs := [5]) (it_any (ev_var 11)) (tg_name 5 (by decide)) et_yes (ev_call' (ea_cons (ev_var 5) ea_nil)))) ea_nil))) (tg_tup (tgs_cons (tg_name 5 (by decide)) (tgs_cons (tg_name 12 (by decide)) tgs_nil)))
  (st_frz 5 (st_if (et_and (et_test (ev_op rd_isnot (ev_var 12) ev_non)) (et_or (et_test (ev_op rd_ne (ev_call' (ea_cons (ev_var 12) ea_nil)) (ev_var 5))) (et_test (ev_op rd_eq (ev_var 12) (ev_var 1)))))
  (st_ret ev_bl)
  st_next))))
  (st_ret (ev_andV (ev_op rd_is (ev_call' (ea_cons (ev_op rd_add (ev_op rd_add (ev_sl (ev_var 7) po_no (po_part (ev_var 10))) (ev_tup (ea_cons (ev_tup (ea_cons ev_int ea_nil)) ea_nil))) (ev_sl (ev_var 7) (po_part (ev_op rd_add (ev_var 10) ev_int)) po_no)) ea_nil)) ev_non) (ev_op rd_is (ev_call' (ea_cons (ev_tup ea_nil) ea_nil)) ev_non))))))))))))))))) : TSm K _ b_law)⟩
end
end DD

set_option Elab.async false
set_option linter.all false
set_option maxRecDepth 100000
set_option maxHeartbeats 4000000
namespace DD
open PySem PySem.Spec PyProof.Rows L2
/-! ### the steps that are drawn, and what the program makes of each -/
def four : List Int := [0, 1, 2, 3]
def two : List Int := [0, 1]
def w7 : List Str := ["add", "sub", "mul", "div", "mod", "less", "same"]
def stA : List D := w7.flatMap fun w => four.flatMap fun r => four.flatMap fun s => four.map fun t => .tuple [.str w, .int r, .int s, .int t]
def stB : List D :=
  (four.flatMap fun r => [0, 1, 2, 7, 9999].map fun v => PyData.tuple [.str "set", .int r, .int v]) ++
  (four.flatMap fun r => four.map fun s => PyData.tuple [.str "copy", .int r, .int s]) ++
  (two.map fun f => PyData.tuple [.str "take", .int f]) ++
  (four.flatMap fun r => two.flatMap fun f => four.map fun t => PyData.tuple [.str "field", .int r, .int f, .int t]) ++
  (four.flatMap fun s => four.map fun t => PyData.tuple [.str "put", .int 1, .tuple [.int s, .int t]]) ++
  (two.flatMap fun f => four.map fun s => PyData.tuple [.str "put", .int f, .tuple [.int s]]) ++
  (four.map fun r => PyData.tuple [.str "line", .tuple [.int r]]) ++
  (four.flatMap fun s => four.map fun t => PyData.tuple [.str "line", .tuple [.int s, .int t]]) ++
  [.tuple [.str "end", .int 0]]
def stP (m : Nat) : List D := (List.range m).flatMap fun p =>
  (four.map fun r => PyData.tuple [.str "if", .int r, .int (p : Nat)]) ++ (two.map fun f => PyData.tuple [.str "over", .int f, .int (p : Nat)]) ++ [.tuple [.str "go", .int (p : Nat)]]
def rowOf (st : D) : List D := match m__written_step [st] with
  | some (.tuple r) => r
  | _ => []
def bad0 (st : D) : D := (m__read_step [.tuple (rowOf st ++ [.int 0])]).getD .none
def bad1 (st : D) : D := (m__read_step [.tuple (cutD (rowOf st) none (some 1))]).getD .none
def ok0 (st : D) : Bool := match m__is_step [bad0 st, .int 5] with
  | some (.bool b) => b
  | _ => false
def cardsOf (st : D) : List D := match m__cards_of [st] with
  | some (.list r) => r
  | _ => []
/-- what is asked of each step, x: how many there are -/
def facts (x : D) (st : D) : List (Option D) := [m__written_step [st], m__read_step [.tuple (rowOf st)], m_is_record [.tuple (rowOf st)], m_is_record [.tuple (rowOf st ++ [.int 0])], m_is_record [.tuple (cutD (rowOf st) none (some 1))],
  m__read_step [.tuple (rowOf st ++ [.int 0])], m__is_step [bad0 st, x], m__read_step [.tuple (cutD (rowOf st) none (some 1))], m__is_step [bad1 st, x], m__cards_of [st]]
def hold (st : D) : List (Option D) := [some (.tuple (rowOf st)), some st, some (.bool true), some (.bool true), some (.bool true),
  some (bad0 st), some (.bool (ok0 st)), some (bad1 st), some (.bool false), some (.list (cardsOf st))]
theorem facts_A (x : D) : stA.map (facts x) = stA.map hold := by kernel_rfl
theorem facts_B (x : D) : stB.map (facts x) = stB.map hold := by kernel_rfl
theorem facts_P (x : D) : (stP 13).map (facts x) = (stP 13).map hold := by kernel_rfl
theorem step_A (x : D) : (stA.map fun st => m__is_step [st, x]) = stA.map fun _ => some (.bool true) := by kernel_rfl
theorem step_B (x : D) : (stB.map fun st => m__is_step [st, x]) = stB.map fun _ => some (.bool true) := by kernel_rfl
def tr (x : Option D) : Bool := match x with
  | some (.bool b) => b
  | _ => false
theorem tr_eq {x : Option D} (h : tr x = true) : x = some (.bool true) := by
  unfold tr at h
  split at h
  · rw [h]
  · cases h
theorem step_P : ((List.range 14).all fun m => (stP m).all fun st => tr (m__is_step [st, .int (m : Nat)]) && tr (m__is_step [st, .int (m + 1 : Nat)])) = true := by kernel_rfl
def wd : D → Str
  | .tuple (.str w :: _) => w
  | _ => ""
def c1 : D → Int
  | .tuple (_ :: .int i :: _) => i
  | _ => 0
def c2 : D → Int
  | .tuple (_ :: _ :: .int i :: _) => i
  | _ => 0
def isPut (st : D) : Bool := decide (wd st = "put")
def isTO (st : D) : Bool := decide (wd st = "take") || decide (wd st = "over")
def isF (st : D) : Bool := decide (wd st = "field")
def facts2 (st : D) : List (Option D) := [dIx st (.int 0), dNe (.str (wd st)) (.str "put"), dEq (.str (wd st)) (.str "put"), dInL (.str (wd st)) (.list [.str "take", .str "over"]), dEq (.str (wd st)) (.str "field"),
  if isTO st || isPut st then dIx st (.int 1) else none, if isF st then dIx st (.int 2) else none, if ok0 st then m__written_step [bad0 st] else none]
def hold2 (st : D) : List (Option D) := [some (.str (wd st)), some (.bool (!isPut st)), some (.bool (isPut st)), some (.bool (isTO st)), some (.bool (isF st)),
  if isTO st || isPut st then some (.int (c1 st)) else none, if isF st then some (.int (c2 st)) else none, if ok0 st then some (.tuple (rowOf st ++ [.int 0])) else none]
theorem facts2_A : stA.map facts2 = stA.map hold2 := by kernel_rfl
theorem facts2_B : stB.map facts2 = stB.map hold2 := by kernel_rfl
theorem facts2_P : (stP 13).map facts2 = (stP 13).map hold2 := by kernel_rfl
def cardsL (st : D) : List D := (if isTO st then [.int (c1 st)] else []) ++ (if isF st then [.int (c2 st)] else [])
def cardsP (st : D) : List D := if isPut st then [.int (c1 st)] else []
def facts3 (st : D) : List (List D) := [if isPut st then [] else cardsOf st, if isPut st then cardsOf st else []]
def hold3 (st : D) : List (List D) := [cardsL st, cardsP st]
theorem facts3_A : stA.map facts3 = stA.map hold3 := by kernel_rfl
theorem facts3_B : stB.map facts3 = stB.map hold3 := by kernel_rfl
theorem facts3_P : (stP 13).map facts3 = (stP 13).map hold3 := by kernel_rfl
def lays (d : D) : Bool := d.canLay0 && decide (d.depth ≤ 5)
def chk4 (st : D) : Bool := lays st && (lays (.tuple (rowOf st)) && (lays (bad0 st) && (lays (bad1 st) && (decide ((rowOf st).length ≤ 6) && (decide (1 ≤ (rowOf st).length) && (!ok0 st || !PyData.eqv (bad0 st) st))))))
theorem chk4_A : stA.all chk4 = true := by kernel_rfl
theorem chk4_B : stB.all chk4 = true := by kernel_rfl
theorem chk4_P : (stP 13).all chk4 = true := by kernel_rfl
end DD

set_option Elab.async false
set_option linter.all false
set_option maxRecDepth 100000
set_option maxHeartbeats 4000000
namespace DD
open PySem PySem.Spec PyProof.Rows L2
theorem k_pick : m__law_pick = m_pick := rfl
theorem k_rec : m_is_record = R.m_is_record := rfl
theorem k_recs : m_are_records = R.m_are_records := rfl
def lawA : En → Option Fl := (sOwn 5 (mLst (mCons (mOp dIndex (mVar 2) (mOp dIx (mVar 4) (mC (.int 0)))) mNil)))
def lawB : En → Option Fl := (sFor (mIter (mSl (mVar 4) (mPart (mC (.int 1))) mNoPart)) (gSet 6)
  (sExtend 5 (mIfL (mTru (mUn (dIsi "tuple") (mVar 6))) (mCallL dLstOf (mCons (mVar 6) mNil)) (mLst (mCons (mVar 6) mNil)))))
def WS : D := .list ((sortS ["set", "copy", "add", "sub", "mul", "div", "mod", "less", "same", "go", "if", "take", "over", "field", "put", "line", "mark", "end"]).map PyData.str)
def lastP : D → D
  | .tuple ds => (ds.getLast?).getD .none
  | _ => .none
def lenv (s0 s1 s3 s5 s6 : Option Sl) (st : D) : En := [s0, s1, some (.val WS), s3, some (.val st), s5, s6, none, none, none, none, none, none, none]
theorem row_A (s0 s1 s3 s5 s6 : Option Sl) : (stA.map fun st => sSeq lawA lawB (lenv s0 s1 s3 s5 s6 st)) = stA.map fun st => some (Fl.nx (lenv s0 s1 s3 (some (.own (rowOf st))) (some (.val (lastP st))) st)) := by kernel_rfl
theorem row_B (s0 s1 s3 s5 s6 : Option Sl) : (stB.map fun st => sSeq lawA lawB (lenv s0 s1 s3 s5 s6 st)) = stB.map fun st => some (Fl.nx (lenv s0 s1 s3 (some (.own (rowOf st))) (some (.val (lastP st))) st)) := by kernel_rfl
theorem row_P (s0 s1 s3 s5 s6 : Option Sl) : ((stP 13).map fun st => sSeq lawA lawB (lenv s0 s1 s3 s5 s6 st)) = (stP 13).map fun st => some (Fl.nx (lenv s0 s1 s3 (some (.own (rowOf st))) (some (.val (lastP st))) st)) := by kernel_rfl
def InS (m : Nat) (st : D) : Prop := st ∈ stA ∨ st ∈ stB ∨ st ∈ stP m
theorem stP_mono {m : Nat} (h : m ≤ 13) {st : D} (e : st ∈ stP m) : st ∈ stP 13 := by
  obtain ⟨p, hp, e⟩ := List.mem_flatMap.mp e
  exact List.mem_flatMap.mpr ⟨p, List.mem_range.mpr (Nat.lt_of_lt_of_le (List.mem_range.mp hp) h), e⟩
theorem pick3 {α : Type} {f g : D → α} (a : stA.map f = stA.map g) (b : stB.map f = stB.map g) (c : (stP 13).map f = (stP 13).map g) {m : Nat} (h : m ≤ 13) {st : D} (e : InS m st) : f st = g st := by
  rcases e with e | e | e
  · exact List.map_inj_left.mp a st e
  · exact List.map_inj_left.mp b st e
  · exact List.map_inj_left.mp c st (stP_mono h e)
/-- what is known of a drawn step, in a code of m steps -/
structure Fc (m : Nat) (st : D) : Prop where
  step : m__is_step [st, .int (m : Nat)] = some (.bool true)
  step1 : m__is_step [st, .int (m + 1 : Nat)] = some (.bool true)
  wr : m__written_step [st] = some (.tuple (rowOf st))
  rd : m__read_step [.tuple (rowOf st)] = some st
  isr : m_is_record [.tuple (rowOf st)] = some (.bool true)
  rec0 : m_is_record [.tuple (rowOf st ++ [.int 0])] = some (.bool true)
  rec1 : m_is_record [.tuple (cutD (rowOf st) none (some 1))] = some (.bool true)
  rd0 : m__read_step [.tuple (rowOf st ++ [.int 0])] = some (bad0 st)
  st0 : ∀ x, m__is_step [bad0 st, x] = some (.bool (ok0 st))
  rd1 : m__read_step [.tuple (cutD (rowOf st) none (some 1))] = some (bad1 st)
  st1 : ∀ x, m__is_step [bad1 st, x] = some (.bool false)
  cards : m__cards_of [st] = some (.list (cardsOf st))
  word : dIx st (.int 0) = some (.str (wd st))
  nput : dNe (.str (wd st)) (.str "put") = some (.bool (!isPut st))
  eput : dEq (.str (wd st)) (.str "put") = some (.bool (isPut st))
  eto : dInL (.str (wd st)) (.list [.str "take", .str "over"]) = some (.bool (isTO st))
  efi : dEq (.str (wd st)) (.str "field") = some (.bool (isF st))
  one : isTO st = true ∨ isPut st = true → dIx st (.int 1) = some (.int (c1 st))
  two : isF st = true → dIx st (.int 2) = some (.int (c2 st))
  wr0 : ok0 st = true → m__written_step [bad0 st] = some (.tuple (rowOf st ++ [.int 0]))
  cl : (if isPut st = true then [] else cardsOf st) = cardsL st
  cp : (if isPut st = true then cardsOf st else []) = cardsP st
  lay : lays st = true ∧ lays (.tuple (rowOf st)) = true ∧ lays (bad0 st) = true ∧ lays (bad1 st) = true
  len : (rowOf st).length ≤ 6 ∧ 1 ≤ (rowOf st).length
  ne0 : ok0 st = true → PyData.eqv (bad0 st) st = false
  row : ∀ s0 s1 s3 s5 s6, sSeq lawA lawB (lenv s0 s1 s3 s5 s6 st) = some (Fl.nx (lenv s0 s1 s3 (some (.own (rowOf st))) (some (.val (lastP st))) st))
theorem fc_of {m : Nat} (h : m ≤ 13) {st : D} (e : InS m st) : Fc m st := by
  have F : ∀ x, facts x st = hold st := fun x => pick3 (facts_A x) (facts_B x) (facts_P x) h e
  have F2 : facts2 st = hold2 st := pick3 facts2_A facts2_B facts2_P h e
  have F3 : facts3 st = hold3 st := pick3 facts3_A facts3_B facts3_P h e
  have F4 : chk4 st = true := by
    rcases e with e | e | e
    · exact List.all_eq_true.mp chk4_A st e
    · exact List.all_eq_true.mp chk4_B st e
    · exact List.all_eq_true.mp chk4_P st (stP_mono h e)
  have S : m__is_step [st, .int (m : Nat)] = some (.bool true) ∧ m__is_step [st, .int (m + 1 : Nat)] = some (.bool true) := by
    rcases e with e | e | e
    · exact ⟨List.map_inj_left.mp (step_A _) st e, List.map_inj_left.mp (step_A _) st e⟩
    · exact ⟨List.map_inj_left.mp (step_B _) st e, List.map_inj_left.mp (step_B _) st e⟩
    · have := List.all_eq_true.mp (List.all_eq_true.mp step_P m (List.mem_range.mpr (Nat.lt_succ_of_le h))) st e
      obtain ⟨h1, h2⟩ := Bool.and_eq_true_iff.mp this
      exact ⟨tr_eq h1, tr_eq h2⟩
  have G := F .none
  unfold facts hold at G
  simp only [List.cons.injEq, and_true] at G
  obtain ⟨g1, g2, g3, g4, g5, g6, g7, g8, g9, g10⟩ := G
  unfold facts2 hold2 at F2
  simp only [List.cons.injEq, and_true] at F2
  obtain ⟨k1, k2, k3, k4, k5, k6, k7, k8⟩ := F2
  unfold facts3 hold3 at F3
  simp only [List.cons.injEq, and_true] at F3
  obtain ⟨l1, l2⟩ := F3
  unfold chk4 at F4
  simp only [Bool.and_eq_true] at F4
  obtain ⟨n1, n2, n3, n4, n5, n6, n7⟩ := F4
  refine ⟨S.1, S.2, g1, g2, g3, g4, g5, g6, fun x => ?_, g8, fun x => ?_, g10, k1, k2, k3, k4, k5, fun q => ?_, fun q => ?_, fun q => ?_, l1, l2, ⟨n1, n2, n3, n4⟩, ⟨of_decide_eq_true n5, of_decide_eq_true n6⟩, fun q => ?_, fun s0 s1 s3 s5 s6 => pick3 (row_A s0 s1 s3 s5 s6) (row_B s0 s1 s3 s5 s6) (row_P s0 s1 s3 s5 s6) h e⟩
  · have G := F x
    unfold facts hold at G
    simp only [List.cons.injEq, and_true] at G
    exact G.2.2.2.2.2.2.1
  · have G := F x
    unfold facts hold at G
    simp only [List.cons.injEq, and_true] at G
    exact G.2.2.2.2.2.2.2.2.1
  · have : (isTO st || isPut st) = true := by rcases q with q | q <;> simp [q]
    rw [if_pos this, if_pos this] at k6
    exact k6
  · rw [if_pos q, if_pos q] at k7
    exact k7
  · rw [if_pos q, if_pos q] at k8
    exact k8
  · rw [q] at n7
    simpa using n7
/-! ### a step is drawn -/
def scR : En → Option Fl := (sSeq (sIf (mTest (mOp dLt (mVar 3) (mC (.int 2))))
  (sRet (mTup (mCons (mC (.str ("set" : Str))) (mCons (mVar 4) (mCons (mOp dIx (mList (mLst (mCons (mC (.int 0)) (mCons (mC (.int 1)) (mCons (mC (.int 2)) (mCons (mC (.int 7)) (mCons (mC (.int 9999)) mNil))))))) (mCall (lim 3 m__law_pick) (mCons (mVar 0) (mCons (mOp dAdd (mVar 1) (mC (.int 5))) (mCons (mC (.int 5)) mNil))))) mNil)))))
  sNext)
  (sSeq (sIf (mTest (mOp dLt (mVar 3) (mC (.int 6))))
  (sSeq (sAsg (mOp dIx (mList (mLst (mCons (mC (.str ("add" : Str))) (mCons (mC (.str ("sub" : Str))) (mCons (mC (.str ("mul" : Str))) (mCons (mC (.str ("div" : Str))) (mCons (mC (.str ("mod" : Str))) (mCons (mC (.str ("less" : Str))) (mCons (mC (.str ("same" : Str))) mNil))))))))) (mCall (lim 3 m__law_pick) (mCons (mVar 0) (mCons (mOp dAdd (mVar 1) (mC (.int 5))) (mCons (mC (.int 7)) mNil))))) (gSet 8))
  (sRet (mTup (mCons (mVar 8) (mCons (mVar 4) (mCons (mVar 5) (mCons (mVar 6) mNil)))))))
  sNext)
  (sSeq (sOwn 9 (mLst (mCons (mTup (mCons (mC (.str ("copy" : Str))) (mCons (mVar 4) (mCons (mVar 5) mNil)))) (mCons (mTup (mCons (mC (.str ("if" : Str))) (mCons (mVar 4) (mCons (mVar 7) mNil)))) (mCons (mTup (mCons (mC (.str ("take" : Str))) (mCons (mC (.int 0)) mNil))) (mCons (mTup (mCons (mC (.str ("take" : Str))) (mCons (mOp dMod (mVar 4) (mC (.int 2))) mNil))) (mCons (mTup (mCons (mC (.str ("over" : Str))) (mCons (mOp dMod (mVar 4) (mC (.int 2))) (mCons (mVar 7) mNil)))) (mCons (mTup (mCons (mC (.str ("field" : Str))) (mCons (mVar 4) (mCons (mC (.int 0)) (mCons (mOp dMod (mVar 6) (mC (.int 2))) mNil))))) mNil))))))))
  (sSeq (sExtend 9 (mLst (mCons (mTup (mCons (mC (.str ("field" : Str))) (mCons (mVar 4) (mCons (mOp dMod (mVar 5) (mC (.int 2))) (mCons (mVar 6) mNil))))) (mCons (mTup (mCons (mC (.str ("put" : Str))) (mCons (mC (.int 1)) (mCons (mTup (mCons (mVar 5) (mCons (mVar 6) mNil))) mNil)))) (mCons (mTup (mCons (mC (.str ("put" : Str))) (mCons (mOp dMod (mVar 4) (mC (.int 2))) (mCons (mTup (mCons (mVar 5) mNil)) mNil)))) (mCons (mTup (mCons (mC (.str ("line" : Str))) (mCons (mTup (mCons (mVar 4) mNil)) mNil))) mNil))))))
  (sSeq (sExtend 9 (mLst (mCons (mTup (mCons (mC (.str ("line" : Str))) (mCons (mTup (mCons (mVar 5) (mCons (mVar 6) mNil))) mNil))) (mCons (mTup (mCons (mC (.str ("go" : Str))) (mCons (mVar 7) mNil))) mNil))))
  (sFrz 9 (sRet (mOp dIx (mVar 9) (mOp dSub (mVar 3) (mC (.int 6)))))))))))
end DD

set_option Elab.async false
set_option linter.all false
set_option maxRecDepth 100000
set_option maxHeartbeats 4000000
namespace DD
open PySem PySem.Spec PyProof.Rows L2
theorem four_mem {r : Int} (h : 0 ≤ r) (k : r < 4) : r ∈ four := by
  have : r = 0 ∨ r = 1 ∨ r = 2 ∨ r = 3 := by omega
  rcases this with rfl | rfl | rfl | rfl <;> decide
theorem mod2 (r : Int) : r % 2 ∈ two := by
  have : r % 2 = 0 ∨ r % 2 = 1 := by omega
  rcases this with e | e <;> rw [e] <;> decide
theorem two_four {r : Int} (h : r ∈ two) : r ∈ four := by
  simp only [two, List.mem_cons, List.not_mem_nil, or_false] at h
  rcases h with rfl | rfl <;> decide
theorem inP {m : Nat} {p : Int} (h : 0 ≤ p ∧ p < m) {st : D} (e : st ∈ (four.map fun r => PyData.tuple [.str "if", .int r, .int p]) ++ (two.map fun f => PyData.tuple [.str "over", .int f, .int p]) ++ [.tuple [.str "go", .int p]]) : st ∈ stP m := by
  obtain ⟨n, rfl⟩ : ∃ n : Nat, p = (n : Int) := ⟨p.toNat, by omega⟩
  exact List.mem_flatMap.mpr ⟨n, List.mem_range.mpr (by omega), e⟩
def renv (L : D) (a : Int) (m : Nat) (T r s t p : Int) : En := [some (.val L), some (.val (.int a)), some (.val (.int (m : Nat))), some (.val (.int T)), some (.val (.int r)), some (.val (.int s)), some (.val (.int t)), some (.val (.int p)), none, none, none]
theorem sc_6 (L : D) (a : Int) (m : Nat) (r s t p : Int) : scR (renv L a m 6 r s t p) = some (.rt (.tuple [.str "copy", .int r, .int s])) := by kernel_rfl
theorem sc_7 (L : D) (a : Int) (m : Nat) (r s t p : Int) : scR (renv L a m 7 r s t p) = some (.rt (.tuple [.str "if", .int r, .int p])) := by kernel_rfl
theorem sc_8 (L : D) (a : Int) (m : Nat) (r s t p : Int) : scR (renv L a m 8 r s t p) = some (.rt (.tuple [.str "take", .int 0])) := by kernel_rfl
theorem sc_9 (L : D) (a : Int) (m : Nat) (r s t p : Int) : scR (renv L a m 9 r s t p) = some (.rt (.tuple [.str "take", .int (r % 2)])) := by kernel_rfl
theorem sc_10 (L : D) (a : Int) (m : Nat) (r s t p : Int) : scR (renv L a m 10 r s t p) = some (.rt (.tuple [.str "over", .int (r % 2), .int p])) := by kernel_rfl
theorem sc_11 (L : D) (a : Int) (m : Nat) (r s t p : Int) : scR (renv L a m 11 r s t p) = some (.rt (.tuple [.str "field", .int r, .int 0, .int (t % 2)])) := by kernel_rfl
theorem sc_12 (L : D) (a : Int) (m : Nat) (r s t p : Int) : scR (renv L a m 12 r s t p) = some (.rt (.tuple [.str "field", .int r, .int (s % 2), .int t])) := by kernel_rfl
theorem sc_13 (L : D) (a : Int) (m : Nat) (r s t p : Int) : scR (renv L a m 13 r s t p) = some (.rt (.tuple [.str "put", .int 1, .tuple [.int s, .int t]])) := by kernel_rfl
theorem sc_14 (L : D) (a : Int) (m : Nat) (r s t p : Int) : scR (renv L a m 14 r s t p) = some (.rt (.tuple [.str "put", .int (r % 2), .tuple [.int s]])) := by kernel_rfl
theorem sc_15 (L : D) (a : Int) (m : Nat) (r s t p : Int) : scR (renv L a m 15 r s t p) = some (.rt (.tuple [.str "line", .tuple [.int r]])) := by kernel_rfl
theorem sc_16 (L : D) (a : Int) (m : Nat) (r s t p : Int) : scR (renv L a m 16 r s t p) = some (.rt (.tuple [.str "line", .tuple [.int s, .int t]])) := by kernel_rfl
theorem sc_17 (L : D) (a : Int) (m : Nat) (r s t p : Int) : scR (renv L a m 17 r s t p) = some (.rt (.tuple [.str "go", .int p])) := by kernel_rfl
theorem sc_lo {L : D} {a : Int} {m : Nat} {T r s t p x : Int} (h : T = 0 ∨ T = 1) (e : m__law_pick [L, .int (a + 5), .int 5] = some (.int x)) (hx : 0 ≤ x ∧ x < 5) (hr : r ∈ four) : ∃ st, scR (renv L a m T r s t p) = some (.rt st) ∧ InS m st := by
  have c : mTest (mOp dLt (mVar 3) (mC (.int 2))) (renv L a m T r s t p) = some true := by rcases h with rfl | rfl <;> rfl
  have q : ∃ v ∈ ([0, 1, 2, 7, 9999] : List Int), dIx (.list [.int 0, .int 1, .int 2, .int 7, .int 9999]) (.int x) = some (.int v) := by
    have : x = 0 ∨ x = 1 ∨ x = 2 ∨ x = 3 ∨ x = 4 := by omega
    rcases this with rfl | rfl | rfl | rfl | rfl
    · exact ⟨0, by decide, rfl⟩
    · exact ⟨1, by decide, rfl⟩
    · exact ⟨2, by decide, rfl⟩
    · exact ⟨7, by decide, rfl⟩
    · exact ⟨9999, by decide, rfl⟩
  obtain ⟨v, hv, ev⟩ := q
  refine ⟨.tuple [.str "set", .int r, .int v], ?_, .inr (.inl (by unfold stB; exact (List.mem_append_left _ (List.mem_append_left _ (List.mem_append_left _ (List.mem_append_left _ (List.mem_append_left _ (List.mem_append_left _ (List.mem_append_left _ (List.mem_append_left _ (List.mem_flatMap.mpr ⟨_, hr, (List.mem_map.mpr ⟨_, hv, rfl⟩)⟩)))))))))))⟩
  unfold scR
  refine seq_rt ?_
  rw [if_t c]
  refine ret_of (tup_of (x := [.str "set", .int r, .int v]) (cons_of rfl (cons_of rfl (cons_of ?_ nil_of))) (by show 3 ≤ cap; decide))
  have e2 : mCall (lim 3 m__law_pick) (mCons (mVar 0) (mCons (mOp dAdd (mVar 1) (mC (.int 5))) (mCons (mC (.int 5)) mNil))) (renv L a m T r s t p) = some (.int x) := e
  rw [op_of (x := .list [.int 0, .int 1, .int 2, .int 7, .int 9999]) rfl e2]
  exact ev
theorem sc_mid {L : D} {a : Int} {m : Nat} {T r s t p x : Int} (h : T = 2 ∨ T = 3 ∨ T = 4 ∨ T = 5) (e : m__law_pick [L, .int (a + 5), .int 7] = some (.int x)) (hx : 0 ≤ x ∧ x < 7) (hr : r ∈ four) (hs : s ∈ four) (ht : t ∈ four) : ∃ st, scR (renv L a m T r s t p) = some (.rt st) ∧ InS m st := by
  have c0 : mTest (mOp dLt (mVar 3) (mC (.int 2))) (renv L a m T r s t p) = some false := by rcases h with rfl | rfl | rfl | rfl <;> rfl
  have c : mTest (mOp dLt (mVar 3) (mC (.int 6))) (renv L a m T r s t p) = some true := by rcases h with rfl | rfl | rfl | rfl <;> rfl
  have q : ∃ v ∈ w7, dIx (.list [.str "add", .str "sub", .str "mul", .str "div", .str "mod", .str "less", .str "same"]) (.int x) = some (.str v) := by
    have : x = 0 ∨ x = 1 ∨ x = 2 ∨ x = 3 ∨ x = 4 ∨ x = 5 ∨ x = 6 := by omega
    rcases this with rfl | rfl | rfl | rfl | rfl | rfl | rfl
    · exact ⟨"add", by decide +kernel, rfl⟩
    · exact ⟨"sub", by decide +kernel, rfl⟩
    · exact ⟨"mul", by decide +kernel, rfl⟩
    · exact ⟨"div", by decide +kernel, rfl⟩
    · exact ⟨"mod", by decide +kernel, rfl⟩
    · exact ⟨"less", by decide +kernel, rfl⟩
    · exact ⟨"same", by decide +kernel, rfl⟩
  obtain ⟨v, hv, ev⟩ := q
  refine ⟨.tuple [.str v, .int r, .int s, .int t], ?_, .inl (List.mem_flatMap.mpr ⟨_, hv, List.mem_flatMap.mpr ⟨_, hr, List.mem_flatMap.mpr ⟨_, hs, List.mem_map.mpr ⟨_, ht, rfl⟩⟩⟩⟩)⟩
  unfold scR
  rw [seq_nx (by rw [if_f c0]; rfl)]
  refine seq_rt ?_
  rw [if_t c]
  have e2 : mCall (lim 3 m__law_pick) (mCons (mVar 0) (mCons (mOp dAdd (mVar 1) (mC (.int 5))) (mCons (mC (.int 7)) mNil))) (renv L a m T r s t p) = some (.int x) := e
  rw [seq_nx (asg_set (d := .str v) (by rw [op_of (x := .list [.str "add", .str "sub", .str "mul", .str "div", .str "mod", .str "less", .str "same"]) rfl e2]; exact ev))]
  rfl
theorem sc_all {L : D} {a : Int} {m : Nat} {T r s t p x5 x7 : Int} (hT : 0 ≤ T ∧ T < 18) (e5 : m__law_pick [L, .int (a + 5), .int 5] = some (.int x5)) (h5 : 0 ≤ x5 ∧ x5 < 5) (e7 : m__law_pick [L, .int (a + 5), .int 7] = some (.int x7)) (h7 : 0 ≤ x7 ∧ x7 < 7)
    (hr : r ∈ four) (hs : s ∈ four) (ht : t ∈ four) (hp : 0 ≤ p ∧ p < m) : ∃ st, scR (renv L a m T r s t p) = some (.rt st) ∧ InS m st := by
  by_cases c1 : T < 2
  · exact sc_lo (by omega) e5 h5 hr
  by_cases c2 : T < 6
  · exact sc_mid (by omega) e7 h7 hr hs ht
  have : T = 6 ∨ T = 7 ∨ T = 8 ∨ T = 9 ∨ T = 10 ∨ T = 11 ∨ T = 12 ∨ T = 13 ∨ T = 14 ∨ T = 15 ∨ T = 16 ∨ T = 17 := by omega
  rcases this with rfl | rfl | rfl | rfl | rfl | rfl | rfl | rfl | rfl | rfl | rfl | rfl
  · exact ⟨_, sc_6 L a m r s t p, (.inr (.inl (by unfold stB; exact (List.mem_append_left _ (List.mem_append_left _ (List.mem_append_left _ (List.mem_append_left _ (List.mem_append_left _ (List.mem_append_left _ (List.mem_append_left _ (List.mem_append_right _ (List.mem_flatMap.mpr ⟨_, hr, (List.mem_map.mpr ⟨_, hs, rfl⟩)⟩))))))))))))⟩
  · exact ⟨_, sc_7 L a m r s t p, (.inr (.inr (inP hp (List.mem_append_left _ (List.mem_append_left _ (List.mem_map.mpr ⟨_, hr, rfl⟩))))))⟩
  · exact ⟨_, sc_8 L a m r s t p, (.inr (.inl (by unfold stB; exact (List.mem_append_left _ (List.mem_append_left _ (List.mem_append_left _ (List.mem_append_left _ (List.mem_append_left _ (List.mem_append_left _ (List.mem_append_right _ (List.mem_map.mpr ⟨_, (by decide), rfl⟩)))))))))))⟩
  · exact ⟨_, sc_9 L a m r s t p, (.inr (.inl (by unfold stB; exact (List.mem_append_left _ (List.mem_append_left _ (List.mem_append_left _ (List.mem_append_left _ (List.mem_append_left _ (List.mem_append_left _ (List.mem_append_right _ (List.mem_map.mpr ⟨_, (mod2 r), rfl⟩)))))))))))⟩
  · exact ⟨_, sc_10 L a m r s t p, (.inr (.inr (inP hp (List.mem_append_left _ (List.mem_append_right _ (List.mem_map.mpr ⟨_, (mod2 r), rfl⟩))))))⟩
  · exact ⟨_, sc_11 L a m r s t p, (.inr (.inl (by unfold stB; exact (List.mem_append_left _ (List.mem_append_left _ (List.mem_append_left _ (List.mem_append_left _ (List.mem_append_left _ (List.mem_append_right _ (List.mem_flatMap.mpr ⟨_, hr, (List.mem_flatMap.mpr ⟨_, (show (0 : Int) ∈ two by decide), (List.mem_map.mpr ⟨_, (two_four (mod2 t)), rfl⟩)⟩)⟩))))))))))⟩
  · exact ⟨_, sc_12 L a m r s t p, (.inr (.inl (by unfold stB; exact (List.mem_append_left _ (List.mem_append_left _ (List.mem_append_left _ (List.mem_append_left _ (List.mem_append_left _ (List.mem_append_right _ (List.mem_flatMap.mpr ⟨_, hr, (List.mem_flatMap.mpr ⟨_, (mod2 s), (List.mem_map.mpr ⟨_, ht, rfl⟩)⟩)⟩))))))))))⟩
  · exact ⟨_, sc_13 L a m r s t p, (.inr (.inl (by unfold stB; exact (List.mem_append_left _ (List.mem_append_left _ (List.mem_append_left _ (List.mem_append_left _ (List.mem_append_right _ (List.mem_flatMap.mpr ⟨_, hs, (List.mem_map.mpr ⟨_, ht, rfl⟩)⟩)))))))))⟩
  · exact ⟨_, sc_14 L a m r s t p, (.inr (.inl (by unfold stB; exact (List.mem_append_left _ (List.mem_append_left _ (List.mem_append_left _ (List.mem_append_right _ (List.mem_flatMap.mpr ⟨_, (mod2 r), (List.mem_map.mpr ⟨_, hs, rfl⟩)⟩))))))))⟩
  · exact ⟨_, sc_15 L a m r s t p, (.inr (.inl (by unfold stB; exact (List.mem_append_left _ (List.mem_append_left _ (List.mem_append_right _ (List.mem_map.mpr ⟨_, hr, rfl⟩)))))))⟩
  · exact ⟨_, sc_16 L a m r s t p, (.inr (.inl (by unfold stB; exact (List.mem_append_left _ (List.mem_append_right _ (List.mem_flatMap.mpr ⟨_, hs, (List.mem_map.mpr ⟨_, ht, rfl⟩)⟩))))))⟩
  · exact ⟨_, sc_17 L a m r s t p, (.inr (.inr (inP hp (List.mem_append_right _ (List.mem_singleton.mpr rfl)))))⟩
theorem step_code_ok (ns : List Int) (h63 : ns.length ≤ 63) (a : Int) (ha : 0 ≤ a) (ha2 : a ≤ 1000) (m : Nat) (h1 : 1 ≤ m) (h13 : m ≤ 13) : ∃ st, m__law_step_code [.list (ns.map .int), .int a, .int (m : Nat)] = some st ∧ InS m st := by
  obtain ⟨T, p0, a0, b0⟩ := pick_ok ns h63 a 18 (by omega) (by omega) (by decide) (by decide)
  obtain ⟨r, p1, a1, b1⟩ := pick_ok ns h63 (a + 1 + (0 + ((0 : Nat) : Int))) 4 (by omega) (by omega) (by decide) (by decide)
  obtain ⟨s, p2, a2, b2⟩ := pick_ok ns h63 (a + 1 + (0 + ((1 : Nat) : Int))) 4 (by omega) (by omega) (by decide) (by decide)
  obtain ⟨t, p3, a3, b3⟩ := pick_ok ns h63 (a + 1 + (0 + ((2 : Nat) : Int))) 4 (by omega) (by omega) (by decide) (by decide)
  obtain ⟨p, p4, a4, b4⟩ := pick_ok ns h63 (a + 4) m (by omega) (by omega) (by omega) (by omega)
  obtain ⟨x5, p5, a5, b5⟩ := pick_ok ns h63 (a + 5) 5 (by omega) (by omega) (by decide) (by decide)
  obtain ⟨x7, p7, a7, b7⟩ := pick_ok ns h63 (a + 5) 7 (by omega) (by omega) (by decide) (by decide)
  generalize PyData.list (ns.map .int) = L at *
  rw [← k_pick] at p0 p1 p2 p3 p4 p5 p7
  obtain ⟨st, e, hst⟩ := sc_all (L := L) (a := a) (m := m) ⟨a0, b0⟩ p5 ⟨a5, b5⟩ p7 ⟨a7, b7⟩ (four_mem a1 b1) (four_mem a2 b2) (four_mem a3 b3) ⟨a4, b4⟩
  refine ⟨st, mDef_rt ?_, hst⟩
  have q1 : (sAsg (mCall (lim 3 m__law_pick) (mCons (mVar 0) (mCons (mVar 1) (mCons (mC (.int 18)) mNil)))) (gSet 3)) (start0 11 [L, .int a, .int (m : Nat)]) = some (.nx [some (.val L), some (.val (.int a)), some (.val (.int (m : Nat))), some (.val (.int T)), none, none, none, none, none, none, none]) := by
    have e1 : mCall (lim 3 m__law_pick) (mCons (mVar 0) (mCons (mVar 1) (mCons (mC (.int 18)) mNil))) (start0 11 [L, .int a, .int (m : Nat)]) = some (.int T) := p0
    rw [asg_set e1]
    rfl
  unfold b__law_step_code
  rw [seq_nx q1]
  have q2 : (sAsg (mList (mLc (mRange1 (mCons (mC (.int 3)) mNil)) (gSet 10) mYes (mCall (lim 3 m__law_pick) (mCons (mVar 0) (mCons (mOp dAdd (mOp dAdd (mVar 1) (mC (.int 1))) (mVar 10)) (mCons (mC (.int 4)) mNil)))) [10])) (gLstM 3 (gConsM (gSet 4) (gConsM (gSet 5) (gConsM (gSet 6) gNilM))))) [some (.val L), some (.val (.int a)), some (.val (.int (m : Nat))), some (.val (.int T)), none, none, none, none, none, none, none] = some (.nx [some (.val L), some (.val (.int a)), some (.val (.int (m : Nat))), some (.val (.int T)), some (.val (.int r)), some (.val (.int s)), some (.val (.int t)), none, none, none, none]) := by
    have e1 : (mLc (mRange1 (mCons (mC (.int 3)) mNil)) (gSet 10) mYes (mCall (lim 3 m__law_pick) (mCons (mVar 0) (mCons (mOp dAdd (mOp dAdd (mVar 1) (mC (.int 1))) (mVar 10)) (mCons (mC (.int 4)) mNil)))) [10]) [some (.val L), some (.val (.int a)), some (.val (.int (m : Nat))), some (.val (.int T)), none, none, none, none, none, none, none] = some [.int r, .int s, .int t] := by
      have e2 : (mLc (mRange1 (mCons (mC (.int 3)) mNil)) (gSet 10) mYes (mCall (lim 3 m__law_pick) (mCons (mVar 0) (mCons (mOp dAdd (mOp dAdd (mVar 1) (mC (.int 1))) (mVar 10)) (mCons (mC (.int 4)) mNil)))) [10]) [some (.val L), some (.val (.int a)), some (.val (.int (m : Nat))), some (.val (.int T)), none, none, none, none, none, none, none] =
        ((m__law_pick [L, .int (a + 1 + (0 + ((0 : Nat) : Int))), .int 4]).bind fun x => (((m__law_pick [L, .int (a + 1 + (0 + ((1 : Nat) : Int))), .int 4]).bind fun y => (((m__law_pick [L, .int (a + 1 + (0 + ((2 : Nat) : Int))), .int 4]).bind fun z => (some []).map fun r => z :: r)).map fun r => y :: r)).map fun r => x :: r) := by kernel_rfl
      rw [e2, p1, p2, p3]
      rfl
    unfold sAsg
    rw [list_of e1]
    rfl
  rw [seq_nx q2]
  have q3 : (sAsg (mCall (lim 3 m__law_pick) (mCons (mVar 0) (mCons (mOp dAdd (mVar 1) (mC (.int 4))) (mCons (mVar 2) mNil)))) (gSet 7)) [some (.val L), some (.val (.int a)), some (.val (.int (m : Nat))), some (.val (.int T)), some (.val (.int r)), some (.val (.int s)), some (.val (.int t)), none, none, none, none] = some (.nx (renv L a m T r s t p)) := by
    have e1 : mCall (lim 3 m__law_pick) (mCons (mVar 0) (mCons (mOp dAdd (mVar 1) (mC (.int 4))) (mCons (mVar 2) mNil))) [some (.val L), some (.val (.int a)), some (.val (.int (m : Nat))), some (.val (.int T)), some (.val (.int r)), some (.val (.int s)), some (.val (.int t)), none, none, none, none] = some (.int p) := p4
    rw [asg_set e1]
    rfl
  rw [seq_nx q3]
  exact e
end DD

set_option Elab.async false
set_option linter.all false
set_option maxRecDepth 100000
set_option maxHeartbeats 4000000
namespace DD
open PySem PySem.Spec PyProof.Rows L2
theorem coll_ex {g : D → En → Option En} {e : En → Option D} {ρ : En} {P : D → Prop} : ∀ {ds : List D}, (∀ d ∈ ds, ∃ ρ1 x, g d ρ = some ρ1 ∧ e ρ1 = some x ∧ P x) → ∃ xs, coll g mYes e ρ ds = some xs ∧ xs.length = ds.length ∧ ∀ x ∈ xs, P x
  | [], _ => ⟨[], rfl, rfl, fun x h => nomatch h⟩
  | d :: ds, h => by
    obtain ⟨ρ1, x, h1, h2, h3⟩ := h d List.mem_cons_self
    obtain ⟨xs, i1, i2, i3⟩ := coll_ex (g := g) (e := e) (ρ := ρ) (P := P) (ds := ds) fun y hy => h y (List.mem_cons_of_mem _ hy)
    refine ⟨x :: xs, ?_, by simp [i2], fun y hy => ?_⟩
    · have s1 : coll g mYes e ρ (d :: ds) = (g d ρ).bind fun ρ1 => (mYes ρ1).bind fun b => if b = true then (e ρ1).bind fun x => (coll g mYes e ρ ds).map fun r => x :: r else coll g mYes e ρ ds := rfl
      rw [s1, h1]
      show ((e ρ1).bind fun x => (coll g mYes e ρ ds).map fun r => x :: r) = _
      rw [h2, i1]
      rfl
    · rcases List.mem_cons.mp hy with rfl | hy
      · exact h3
      · exact i3 y hy
theorem coll_if {g : D → En → Option En} {c : En → Option Bool} {e : En → Option D} {ρ : En} {p : D → Bool} {f : D → D} : ∀ {ds : List D}, (∀ d ∈ ds, ∃ ρ1, g d ρ = some ρ1 ∧ c ρ1 = some (p d) ∧ (p d = true → e ρ1 = some (f d))) → coll g c e ρ ds = some ((ds.filter p).map f)
  | [], _ => rfl
  | d :: ds, h => by
    obtain ⟨ρ1, h1, h2, h3⟩ := h d List.mem_cons_self
    have ih := coll_if (g := g) (c := c) (e := e) (ρ := ρ) (p := p) (f := f) (ds := ds) fun y hy => h y (List.mem_cons_of_mem _ hy)
    have s1 : coll g c e ρ (d :: ds) = (g d ρ).bind fun ρ1 => (c ρ1).bind fun b => if b = true then (e ρ1).bind fun x => (coll g c e ρ ds).map fun r => x :: r else coll g c e ρ ds := rfl
    rw [s1, h1]
    show ((c ρ1).bind fun b => _) = _
    rw [h2]
    show (if p d = true then (e ρ1).bind fun x => (coll g c e ρ ds).map fun r => x :: r else coll g c e ρ ds) = _
    cases hp : p d with
    | true =>
      rw [if_pos rfl, h3 hp, ih, List.filter_cons_of_pos hp]
      rfl
    | false =>
      rw [if_neg Bool.false_ne_true, ih, List.filter_cons_of_neg (by rw [hp]; exact Bool.false_ne_true)]
theorem lc_if {it : En → Option (List D)} {g : D → En → Option En} {c : En → Option Bool} {e : En → Option D} {ρ : En} {vs : List Nat} {ds : List D} {p : D → Bool} {f : D → D} (hi : it ρ = some ds) (hz : ds.length ≤ cap) (h : ∀ d ∈ ds, ∃ ρ1, g d (wipeM ρ vs) = some ρ1 ∧ c ρ1 = some (p d) ∧ (p d = true → e ρ1 = some (f d))) :
    mLc it g c e vs ρ = some ((ds.filter p).map f) := by
  unfold mLc
  rw [hi]
  show (if ds.length ≤ cap then _ else _) = _
  rw [if_pos hz]
  exact coll_if h
theorem coll2_of {g : D → En → Option En} {c : En → Option Bool} {it1 : En → Option (List D)} {g1 : D → En → Option En} {c1 : En → Option Bool} {e : En → Option D} {vs1 : List Nat} {ρ : En} {p : D → Bool} {q : D → List D} : ∀ {ds : List D},
    (∀ d ∈ ds, ∃ ρ1, g d ρ = some ρ1 ∧ c ρ1 = some (p d) ∧ (p d = true → noOwn ρ1 = true ∧ it1 ρ1 = some (q d) ∧ coll g1 c1 e (wipeM ρ1 vs1) (q d) = some (q d))) →
    coll2 g c it1 g1 c1 e vs1 ρ ds = some ((ds.map fun d => if p d = true then q d else []).flatten)
  | [], _ => rfl
  | d :: ds, h => by
    obtain ⟨ρ1, h1, h2, h3⟩ := h d List.mem_cons_self
    have ih := coll2_of (g := g) (c := c) (it1 := it1) (g1 := g1) (c1 := c1) (e := e) (vs1 := vs1) (ρ := ρ) (p := p) (q := q) (ds := ds) fun y hy => h y (List.mem_cons_of_mem _ hy)
    unfold coll2
    rw [h1]
    show ((c ρ1).bind fun b => _) = _
    rw [h2]
    show (if p d = true then _ else _) = _
    cases hp : p d with
    | true =>
      obtain ⟨k1, k2, k3⟩ := h3 hp
      rw [if_pos rfl, if_pos k1, k2]
      show ((coll g1 c1 e (wipeM ρ1 vs1) (q d)).bind fun r1 => _) = _
      rw [k3, ih]
      simp [hp]
    | false =>
      rw [if_neg Bool.false_ne_true, ih]
      simp [hp]

/-! ### the drawn code -/
theorem code_ok (ns : List Int) (h63 : ns.length ≤ 63) : ∃ (m : Nat) (code : List D), m__law_code [.list (ns.map .int), .int 0] = some (.tuple code) ∧ code.length = m ∧ 2 ≤ m ∧ m ≤ 13 ∧ ∀ st ∈ code, InS m st := by
  obtain ⟨r0, p0, a0, b0⟩ := pick_ok ns h63 0 12 (by decide) (by decide) (by decide) (by decide)
  obtain ⟨m, hm, h2, h13⟩ : ∃ m : Nat, 2 + r0 = (m : Int) ∧ 2 ≤ m ∧ m ≤ 13 := ⟨(2 + r0).toNat, by omega, by omega, by omega⟩
  have S := fun (a : Int) ha ha2 => step_code_ok ns h63 a ha ha2 m (by omega) h13
  generalize PyData.list (ns.map .int) = L at *
  rw [← k_pick] at p0
  have e1 : mOp dAdd (mC (.int 2)) (mCall (lim 3 m__law_pick) (mCons (mVar 0) (mCons (mVar 1) (mCons (mC (.int 12)) mNil)))) (start0 5 [L, .int 0]) = some (.int (m : Nat)) := by
    have e2 : mCall (lim 3 m__law_pick) (mCons (mVar 0) (mCons (mVar 1) (mCons (mC (.int 12)) mNil))) (start0 5 [L, .int 0]) = some (.int r0) := p0
    rw [op_of (show mC (.int 2) _ = some (.int 2) from rfl) e2, ← hm]
    rfl
  have e3 : ∃ xs, mLc (mRange1 (mCons (mOp dSub (mVar 2) (mC (.int 1))) mNil)) (gSet 4) mYes (mCall (lim 3 m__law_step_code) (mCons (mVar 0) (mCons (mOp dAdd (mOp dAdd (mVar 1) (mC (.int 1))) (mOp dMul (mC (.int 6)) (mVar 4))) (mCons (mVar 2) mNil)))) [4]
      [some (.val L), some (.val (.int 0)), some (.val (.int (m : Nat))), none, none] = some xs ∧ xs.length = m - 1 ∧ ∀ st ∈ xs, InS m st := by
    have r1 : mRange1 (mCons (mOp dSub (mVar 2) (mC (.int 1))) mNil) [some (.val L), some (.val (.int 0)), some (.val (.int (m : Nat))), none, none] = some (upto 0 (m - 1)) := by
      have : m = 2 ∨ m = 3 ∨ m = 4 ∨ m = 5 ∨ m = 6 ∨ m = 7 ∨ m = 8 ∨ m = 9 ∨ m = 10 ∨ m = 11 ∨ m = 12 ∨ m = 13 := by omega
      rcases this with rfl | rfl | rfl | rfl | rfl | rfl | rfl | rfl | rfl | rfl | rfl | rfl <;> rfl
    have ul : (upto 0 (m - 1)).length = m - 1 := by simp [upto]
    have cl : (upto 0 (m - 1)).length ≤ cap := by rw [ul]; exact Nat.le_trans (show m - 1 ≤ 12 by omega) (by decide)
    obtain ⟨xs, i1, i2, i3⟩ := coll_ex (g := gSet 4) (e := mCall (lim 3 m__law_step_code) (mCons (mVar 0) (mCons (mOp dAdd (mOp dAdd (mVar 1) (mC (.int 1))) (mOp dMul (mC (.int 6)) (mVar 4))) (mCons (mVar 2) mNil))))
      (ρ := wipeM [some (.val L), some (.val (.int 0)), some (.val (.int (m : Nat))), none, none] [4]) (P := InS m) (ds := upto 0 (m - 1)) fun d hd => by
        obtain ⟨i, hi, rfl⟩ := List.mem_map.mp hd
        have hi2 := List.mem_range.mp hi
        obtain ⟨st, s1, s2⟩ := S (0 + 1 + 6 * (0 + (i : Int))) (by omega) (by omega)
        refine ⟨_, st, rfl, ?_, s2⟩
        have q1 : mOp dAdd (mOp dAdd (mVar 1) (mC (.int 1))) (mOp dMul (mC (.int 6)) (mVar 4)) [some (.val L), some (.val (.int 0)), some (.val (.int (m : Nat))), none, some (.val (.int (0 + (i : Int))))] = some (.int (0 + 1 + 6 * (0 + (i : Int)))) := by
          rw [op_of (x := .int (0 + 1)) (y := .int (6 * (0 + (i : Int)))) rfl (by
            rw [op_of (x := .int 6) (y := .int (0 + (i : Int))) rfl rfl]
            exact dMul_r (by omega) (by omega))]
          rfl
        have q2 := cons_of (show mVar 0 [some (.val L), some (.val (.int 0)), some (.val (.int (m : Nat))), none, some (.val (.int (0 + (i : Int))))] = some L from rfl) (cons_of q1 (cons_of (show mVar 2 [some (.val L), some (.val (.int 0)), some (.val (.int (m : Nat))), none, some (.val (.int (0 + (i : Int))))] = some (.int (m : Nat)) from rfl) nil_of))
        exact (call_of q2).trans s1
    refine ⟨xs, ?_, by rw [i2, ul], i3⟩
    unfold mLc
    rw [r1]
    show (if (upto 0 (m - 1)).length ≤ cap then _ else _) = _
    rw [if_pos cl]
    exact i1
  obtain ⟨xs, e4, e5, e6⟩ := e3
  refine ⟨m, xs ++ [.tuple [.str "end", .int 0]], ?_, by rw [List.length_append, e5]; simp; omega, h2, h13, fun st hst => ?_⟩
  · refine mDef_rt ?_
    unfold b__law_code
    rw [seq_nx (asg_set e1)]
    have : (start0 5 [L, .int 0]).set 2 (some (.val (.int (m : Nat)))) = [some (.val L), some (.val (.int 0)), some (.val (.int (m : Nat))), none, none] := rfl
    rw [this, seq_nx (asg_set (list_of e4))]
    refine ret_of ?_
    rw [op_of (x := .tuple xs) (y := .tuple [.tuple [.str "end", .int 0]]) rfl rfl]
    show (if xs.length + 1 ≤ cap then _ else _) = _
    rw [if_pos (by rw [e5]; exact Nat.le_trans (show m - 1 + 1 ≤ 14 by omega) (by decide))]
  · rcases List.mem_append.mp hst with h | h
    · exact e6 st h
    · rw [List.mem_singleton.mp h]
      exact .inr (.inl (by unfold stB; exact List.mem_append_right _ (List.mem_singleton.mpr rfl)))
end DD

set_option Elab.async false
set_option linter.all false
set_option maxRecDepth 100000
set_option maxHeartbeats 4000000
namespace DD
open PySem PySem.Spec PyProof.Rows L2
/-! ### codes as a whole -/
theorem is_code_eq {ds : List D} {f : D → Bool} (h : ds.length ≤ cap) (hf : ∀ st ∈ ds, m__is_step [st, .int (ds.length : Nat)] = some (.bool (f st))) :
    m_is_code [.tuple ds] = some (.bool ((decide ((1 : Int) ≤ ds.length) && decide ((ds.length : Int) ≤ 30)) && ds.all f)) := by
  have v0 : mVar 0 (start0 2 [.tuple ds]) = some (.tuple ds) := rfl
  have ln : mCall dLen (mCons (mVar 0) mNil) (start0 2 [.tuple ds]) = some (.int ds.length) := by rw [call_of (cons_of v0 nil_of), dLen_tup h]
  have q1 : mChain dLe dLe (mC (.int 1)) (mCall dLen (mCons (mVar 0) mNil)) (mC (.int 30)) (start0 2 [.tuple ds]) = some (.bool (decide ((1 : Int) ≤ ds.length) && decide ((ds.length : Int) ≤ 30))) :=
    chain_of (x := .int 1) (y := .int ds.length) (z := .int 30) rfl ln rfl rfl rfl
  have q2 : mOr (mNot (mTru (mUn (dIsi "tuple") (mVar 0)))) (mNot (mTest (mChain dLe dLe (mC (.int 1)) (mCall dLen (mCons (mVar 0) mNil)) (mC (.int 30))))) (start0 2 [.tuple ds]) = some (!(decide ((1 : Int) ≤ ds.length) && decide ((ds.length : Int) ≤ 30))) := by
    rw [or_f (show mNot (mTru (mUn (dIsi "tuple") (mVar 0))) (start0 2 [.tuple ds]) = some false from rfl), not_of (test_of q1)]
  cases hq : (decide ((1 : Int) ≤ ds.length) && decide ((ds.length : Int) ≤ 30)) with
  | false =>
    rw [hq] at q2
    refine mDef_rt ?_
    unfold b_is_code
    rw [seq_rt (d := .bool false) (by rw [if_t q2]; rfl)]
    rfl
  | true =>
    rw [hq] at q2
    refine mDef_rt ?_
    unfold b_is_code
    rw [seq_nx (by rw [if_f q2]; rfl)]
    refine ret_of ?_
    have hlc : mLc (mIter (mVar 0)) (gSet 1) mYes (mCall (lim 2 m__is_step) (mCons (mVar 1) (mCons (mCall dLen (mCons (mVar 0) mNil)) mNil))) [1] (start0 2 [.tuple ds]) = some (ds.map fun d => .bool (f d)) := by
      refine lc_of rfl h fun d hd => ⟨_, rfl, ?_⟩
      have w0 : mVar 0 [some (.val (.tuple ds)), some (.val d)] = some (.tuple ds) := rfl
      have ln2 : mCall dLen (mCons (mVar 0) mNil) [some (.val (.tuple ds)), some (.val d)] = some (.int ds.length) := by rw [call_of (cons_of w0 nil_of), dLen_tup h]
      have := call_of (g := lim 2 m__is_step) (cons_of (show mVar 1 [some (.val (.tuple ds)), some (.val d)] = some d from rfl) (cons_of ln2 nil_of))
      exact this.trans (hf d hd)
    rw [call_of (cons_of (list_of hlc) nil_of), dAll_map, Bool.true_and]
theorem demand_eq {c : D} (h : m_is_code [c] = some (.bool true)) : m_demand_code [c] = some .none := by
  have t : mNot (mTru (mCall (lim 1 m_is_code) (mCons (mVar 0) mNil))) (start0 1 [c]) = some false := by
    have e : mCall (lim 1 m_is_code) (mCons (mVar 0) mNil) (start0 1 [c]) = some (.bool true) := h
    rw [not_of (tru_of e)]
    rfl
  unfold m_demand_code mDef b_demand_code
  rw [if_f t]
  rfl
theorem drop_of {a : En → Option D} {ρ : En} {d : D} (h : a ρ = some d) : sDrop a ρ = some (.nx ρ) := by unfold sDrop; rw [h]; rfl
theorem code_records_eq {ds : List D} {w : D → D} (h : ds.length ≤ cap) (hc : m_is_code [.tuple ds] = some (.bool true)) (hw : ∀ st ∈ ds, m__written_step [st] = some (w st)) : m_code_records [.tuple ds] = some (.tuple (ds.map w)) := by
  refine mDef_rt ?_
  unfold b_code_records
  have e : mCall (lim 1 m_demand_code) (mCons (mVar 0) mNil) (start0 2 [.tuple ds]) = some .none := demand_eq hc
  rw [seq_nx (drop_of e)]
  refine ret_of ?_
  have hlc : mLc (mIter (mVar 0)) (gSet 1) mYes (mCall (lim 1 m__written_step) (mCons (mVar 1) mNil)) [1] (start0 2 [.tuple ds]) = some (ds.map w) := by
    refine lc_of rfl h fun d hd => ⟨_, rfl, ?_⟩
    exact (call_of (cons_of (show mVar 1 _ = some d from rfl) nil_of)).trans (hw d hd)
  rw [call_of (cons_of (list_of hlc) nil_of)]
  rfl
theorem code_in_eq {rows : List D} {rd : D → D} {b : Bool} (h : rows.length ≤ cap) (hr : ∀ r ∈ rows, m_is_record [r] = some (.bool true)) (hd : ∀ r ∈ rows, m__read_step [r] = some (rd r)) (hb : m_is_code [.tuple (rows.map rd)] = some (.bool b)) :
    m_code_in [.tuple rows] = some (if b = true then .tuple (rows.map rd) else .none) := by
  refine mDef_rt ?_
  unfold b_code_in
  have l1 : mLc (mIter (mVar 0)) (gSet 2) mYes (mCall (lim 1 m_is_record) (mCons (mVar 2) mNil)) [2] (start0 3 [.tuple rows]) = some (rows.map fun _ => .bool true) := by
    refine lc_of rfl h fun d hd => ⟨_, rfl, ?_⟩
    exact (call_of (cons_of (show mVar 2 _ = some d from rfl) nil_of)).trans (hr d hd)
  have t1 : mOr (mNot (mTru (mUn (dIsi "tuple") (mVar 0)))) (mNot (mTru (mCall dAll (mCons (mList (mLc (mIter (mVar 0)) (gSet 2) mYes (mCall (lim 1 m_is_record) (mCons (mVar 2) mNil)) [2])) mNil)))) (start0 3 [.tuple rows]) = some false := by
    rw [or_f (show mNot (mTru (mUn (dIsi "tuple") (mVar 0))) (start0 3 [.tuple rows]) = some false from rfl)]
    have e : mCall dAll (mCons (mList (mLc (mIter (mVar 0)) (gSet 2) mYes (mCall (lim 1 m_is_record) (mCons (mVar 2) mNil)) [2])) mNil) (start0 3 [.tuple rows]) = some (.bool true) := by
      rw [call_of (cons_of (list_of l1) nil_of), dAll_map (fun _ => true)]
      have : (rows.all fun _ => true) = true := by simp
      rw [this]
    rw [not_of (tru_of e)]
    rfl
  rw [seq_nx (by rw [if_f t1]; rfl)]
  have l2 : mLc (mIter (mVar 0)) (gSet 2) mYes (mCall (lim 1 m__read_step) (mCons (mVar 2) mNil)) [2] (start0 3 [.tuple rows]) = some (rows.map rd) := by
    refine lc_of rfl h fun d hd2 => ⟨_, rfl, ?_⟩
    exact (call_of (cons_of (show mVar 2 _ = some d from rfl) nil_of)).trans (hd d hd2)
  have e2 : mCall dTupOf (mCons (mList (mLc (mIter (mVar 0)) (gSet 2) mYes (mCall (lim 1 m__read_step) (mCons (mVar 2) mNil)) [2])) mNil) (start0 3 [.tuple rows]) = some (.tuple (rows.map rd)) := by
    rw [call_of (cons_of (list_of l2) nil_of)]
    rfl
  rw [seq_nx (asg_set e2)]
  refine ret_of ?_
  have v1 : mVar 1 ((start0 3 [.tuple rows]).set 1 (some (.val (.tuple (rows.map rd))))) = some (.tuple (rows.map rd)) := rfl
  have e3 : mTru (mCall (lim 1 m_is_code) (mCons (mVar 1) mNil)) ((start0 3 [.tuple rows]).set 1 (some (.val (.tuple (rows.map rd))))) = some b := by
    have := (call_of (g := lim 1 m_is_code) (cons_of v1 nil_of)).trans hb
    rw [tru_of this]
    rfl
  cases b with
  | true => rw [ifE_t e3]; exact v1
  | false => rw [ifE_f e3]; rfl

/-! ### lays -/
theorem lays_all : ∀ {ds : List D}, (∀ d ∈ ds, lays d = true) → PyData.canLayAll0 ds = true ∧ PyData.depthAll ds ≤ 5
  | [], _ => ⟨by simp [PyData.canLayAll0], by simp [PyData.depthAll]⟩
  | d :: ds, h => by
    obtain ⟨i1, i2⟩ := lays_all (ds := ds) fun x hx => h x (List.mem_cons_of_mem _ hx)
    obtain ⟨h1, h2⟩ := Bool.and_eq_true_iff.mp (h d List.mem_cons_self)
    have h3 := of_decide_eq_true h2
    refine ⟨by simp [PyData.canLayAll0, h1, i1], ?_⟩
    have : PyData.depthAll (d :: ds) = max d.depth (PyData.depthAll ds) := by simp [PyData.depthAll]
    rw [this]
    exact Nat.max_le.mpr ⟨h3, i2⟩
theorem shaped_tup {ds : List D} (h : ∀ d ∈ ds, lays d = true) : SeqAt.shaped (.tuple ds) = true ∧ PyData.canLay0 (.tuple ds) = true := by
  obtain ⟨i1, i2⟩ := lays_all h
  have c : PyData.canLay0 (.tuple ds) = true := by simp [PyData.canLay0, i1]
  refine ⟨Bool.and_eq_true_iff.mpr ⟨c, decide_eq_true ?_⟩, c⟩
  have : PyData.depth (.tuple ds) = PyData.depthAll ds + 1 := by simp [PyData.depth]
  omega
theorem eqv_mid {a b : D} (h : PyData.eqv a b = false) : ∀ {p p' q q' : List D}, p.length = p'.length → PyData.eqvAll (p ++ a :: q) (p' ++ b :: q') = false
  | [], [], q, q', _ => by simp [PyData.eqvAll, h]
  | [], _ :: _, _, _, e => by simp at e
  | _ :: _, [], _, _, e => by simp at e
  | x :: p, y :: p', q, q', e => by
    have ih := eqv_mid h (p := p) (p' := p') (q := q) (q' := q') (by simpa using e)
    show PyData.eqvAll (x :: (p ++ a :: q)) (y :: (p' ++ b :: q')) = false
    simp [PyData.eqvAll, ih]

/-! ### the slots -/
def readI (st : D) : List Int := (if isTO st = true then [c1 st] else []) ++ (if isF st = true then [c2 st] else [])
def putI (st : D) : List Int := if isPut st = true then [c1 st] else []
theorem readI_eq (st : D) : cardsL st = (readI st).map PyData.int := by unfold cardsL readI; cases isTO st <;> cases isF st <;> rfl
theorem putI_eq (st : D) : cardsP st = (putI st).map PyData.int := by unfold cardsP putI; cases isPut st <;> rfl
theorem len_flat {f : D → List Int} {k : Nat} (h : ∀ d, (f d).length ≤ k) : ∀ ds : List D, (ds.map f).flatten.length ≤ k * ds.length
  | [] => by simp
  | d :: ds => by
    have := len_flat h ds
    have := h d
    simp only [List.map_cons, List.flatten_cons, List.length_append, List.length_cons, Nat.mul_add, Nat.mul_one]
    omega
theorem flat_map (f : D → List Int) : ∀ ds : List D, (ds.map fun d => (f d).map PyData.int).flatten = ((ds.map f).flatten).map PyData.int
  | [] => rfl
  | d :: ds => by simp [flat_map f ds]
theorem coll_id : ∀ (ds : List D) (ρ : En) (i : Nat), i < ρ.length → coll (gSet i) mYes (mVar i) ρ ds = some ds
  | [], _, _, _ => rfl
  | d :: ds, ρ, i, h => by
    have ih := coll_id ds ρ i h
    have s1 : coll (gSet i) mYes (mVar i) ρ (d :: ds) = (gSet i d ρ).bind fun ρ1 => (mYes ρ1).bind fun b => if b = true then (mVar i ρ1).bind fun x => (coll (gSet i) mYes (mVar i) ρ ds).map fun r => x :: r else coll (gSet i) mYes (mVar i) ρ ds := rfl
    rw [s1]
    show ((mVar i (ρ.set i (some (.val d)))).bind fun x => (coll (gSet i) mYes (mVar i) ρ ds).map fun r => x :: r) = _
    rw [var_of (set_self h), ih]
    rfl
theorem sset_same {a b : List Int} (h : ∀ z, z ∈ a ↔ z ∈ b) : sset a = sset b := lt_uniq (sset_sorted a) (sset_sorted b) fun z => by rw [sset_mem, sset_mem, h]
theorem slots_eq {m : Nat} {ds : List D} (h : ds.length ≤ 13) (hc : m_is_code [.tuple ds] = some (.bool true)) (hf : ∀ st ∈ ds, Fc m st) :
    m_slots_of [.tuple ds] = some (.tuple [.tuple ((sset (ds.map readI).flatten).map .int), .tuple ((sset (ds.map putI).flatten).map .int)]) := by
  have hcap : ds.length ≤ cap := Nat.le_trans h (by decide)
  refine mDef_rt ?_
  unfold b_slots_of
  have e : mCall (lim 1 m_demand_code) (mCons (mVar 0) mNil) (start0 5 [.tuple ds]) = some .none := demand_eq hc
  rw [seq_nx (drop_of e)]
  have cards : ∀ (ρ : En) (st : D), Fc m st → ρ[3]? = some (some (.val st)) → 4 < ρ.length → mIter (mCall (lim 1 m__cards_of) (mCons (mVar 3) mNil)) ρ = some (cardsOf st) ∧ coll (gSet 4) mYes (mVar 4) (wipeM ρ [4]) (cardsOf st) = some (cardsOf st) := fun ρ st F hv hl => by
    refine ⟨?_, coll_id _ _ _ (by simpa [wipeM] using hl)⟩
    exact iter_lst ((call_of (cons_of (var_of hv) nil_of)).trans F.cards)
  have wq : ∀ (ρ : En) (st : D), Fc m st → ρ[3]? = some (some (.val st)) → mOp dIx (mVar 3) (mC (.int 0)) ρ = some (.str (wd st)) := fun ρ st F hv => by
    rw [op_of (var_of hv) (show mC (.int 0) ρ = some (.int 0) from rfl)]
    exact F.word
  have l1 : ∀ s1 : Option Sl, (match s1 with | some (.own _) => False | _ => True) → mLc2 (mIter (mVar 0)) (gSet 3) (mTest (mOp dNe (mOp dIx (mVar 3) (mC (.int 0))) (mC (.str ("put" : Str))))) (mIter (mCall (lim 1 m__cards_of) (mCons (mVar 3) mNil))) (gSet 4) mYes (mVar 4) [3, 4] [4] [some (.val (.tuple ds)), s1, none, none, none] =
      some (((ds.map readI).flatten).map .int) := fun s1 hs1 => by
    have c := coll2_of (g := gSet 3) (c := mTest (mOp dNe (mOp dIx (mVar 3) (mC (.int 0))) (mC (.str ("put" : Str))))) (it1 := mIter (mCall (lim 1 m__cards_of) (mCons (mVar 3) mNil))) (g1 := gSet 4) (c1 := mYes) (e := mVar 4) (vs1 := [4]) (ρ := [some (.val (.tuple ds)), s1, none, none, none])
      (p := fun d => !isPut d) (q := cardsOf) (ds := ds) fun d hd => by
        refine ⟨[some (.val (.tuple ds)), s1, none, some (.val d), none], rfl, ?_, fun _ => ⟨?_, cards _ d (hf d hd) rfl (by simp)⟩⟩
        · refine test_of ?_
          rw [op_of (wq _ d (hf d hd) rfl) (show mC (.str ("put" : Str)) _ = some (.str ("put" : Str)) from rfl)]
          exact (hf d hd).nput
        · cases s1 with
          | none => rfl
          | some x => cases x with
            | val _ => rfl
            | own _ => exact hs1.elim
    have r : (ds.map fun d => if (!isPut d) = true then cardsOf d else []).flatten = ((ds.map readI).flatten).map .int := by
      rw [← flat_map]
      refine congrArg List.flatten (List.map_congr_left fun d hd => ?_)
      rw [← readI_eq, ← (hf d hd).cl]
      cases isPut d <;> rfl
    rw [r] at c
    unfold mLc2
    show ((coll2 _ _ _ _ _ _ _ [some (.val (.tuple ds)), s1, none, none, none] ds).bind _) = _
    rw [c]
    show (if _ ≤ cap then _ else _) = _
    rw [if_pos ?_]
    rw [List.length_map]
    have := len_flat (f := readI) (k := 2) (fun d => by unfold readI; cases isTO d <;> cases isF d <;> simp) ds
    exact Nat.le_trans (show _ ≤ 26 by omega) (by decide)
  have l2 : mLc2 (mIter (mVar 0)) (gSet 3) (mTest (mOp dEq (mOp dIx (mVar 3) (mC (.int 0))) (mC (.str ("put" : Str))))) (mIter (mCall (lim 1 m__cards_of) (mCons (mVar 3) mNil))) (gSet 4) mYes (mVar 4) [3, 4] [4] [some (.val (.tuple ds)), some (.val (.list (((ds.map readI).flatten).map .int))), none, none, none] =
      some (((ds.map putI).flatten).map .int) := by
    have c := coll2_of (g := gSet 3) (c := mTest (mOp dEq (mOp dIx (mVar 3) (mC (.int 0))) (mC (.str ("put" : Str))))) (it1 := mIter (mCall (lim 1 m__cards_of) (mCons (mVar 3) mNil))) (g1 := gSet 4) (c1 := mYes) (e := mVar 4) (vs1 := [4]) (ρ := [some (.val (.tuple ds)), some (.val (.list (((ds.map readI).flatten).map .int))), none, none, none])
      (p := fun d => isPut d) (q := cardsOf) (ds := ds) fun d hd => by
        refine ⟨[some (.val (.tuple ds)), some (.val (.list (((ds.map readI).flatten).map .int))), none, some (.val d), none], rfl, ?_, fun _ => ⟨rfl, cards _ d (hf d hd) rfl (by simp)⟩⟩
        refine test_of ?_
        rw [op_of (wq _ d (hf d hd) rfl) (show mC (.str ("put" : Str)) _ = some (.str ("put" : Str)) from rfl)]
        exact (hf d hd).eput
    have r : (ds.map fun d => if isPut d = true then cardsOf d else []).flatten = ((ds.map putI).flatten).map .int := by
      rw [← flat_map]
      refine congrArg List.flatten (List.map_congr_left fun d hd => ?_)
      rw [← putI_eq, ← (hf d hd).cp]
    rw [r] at c
    unfold mLc2
    show ((coll2 _ _ _ _ _ _ _ [some (.val (.tuple ds)), some (.val (.list (((ds.map readI).flatten).map .int))), none, none, none] ds).bind _) = _
    rw [c]
    show (if _ ≤ cap then _ else _) = _
    rw [if_pos ?_]
    rw [List.length_map]
    have := len_flat (f := putI) (k := 2) (fun d => by unfold putI; cases isPut d <;> simp) ds
    exact Nat.le_trans (show _ ≤ 26 by omega) (by decide)
  have e0 : start0 5 [.tuple ds] = [some (.val (.tuple ds)), none, none, none, none] := rfl
  rw [e0, seq_nx (asg_set (list_of (l1 none trivial)))]
  rw [show ([some (.val (.tuple ds)), none, none, none, none] : En).set 1 (some (.val (.list (((ds.map readI).flatten).map .int)))) = [some (.val (.tuple ds)), some (.val (.list (((ds.map readI).flatten).map .int))), none, none, none] from rfl]
  rw [seq_nx (asg_set (list_of l2))]
  refine ret_of ?_
  have srt : ∀ (ρ : En) (i : Nat) (ns : List Int), ρ[i]? = some (some (.val (.list (ns.map .int)))) → ns.length < 63 → mCall dTupOf (mCons (mList (mSortedSet (mVar i))) mNil) ρ = some (.tuple ((sset ns).map .int)) := fun ρ i ns hv hl => by
    have : mSortedSet (mVar i) ρ = some ((sset ns).map .int) := by
      unfold mSortedSet
      rw [var_of hv]
      show ((intsD (ns.map .int)).bind _) = _
      rw [ints_map]
      show (if ns.length < 63 then _ else _) = _
      rw [if_pos hl]
    rw [call_of (cons_of (list_of this) nil_of)]
    rfl
  have a1 := len_flat (f := readI) (k := 2) (fun d => by unfold readI; cases isTO d <;> cases isF d <;> simp) ds
  have a2 := len_flat (f := putI) (k := 2) (fun d => by unfold putI; cases isPut d <;> simp) ds
  exact tup_of (cons_of (srt _ 1 _ rfl (by omega)) (cons_of (srt _ 2 _ rfl (by omega)) nil_of)) (by show 2 ≤ cap; decide)
end DD

set_option Elab.async false
set_option linter.all false
set_option maxRecDepth 100000
set_option maxHeartbeats 4000000
namespace DD
open PySem PySem.Spec PyProof.Rows L2
def LS0 : En → Option Fl := (sPar 1 2 (mCall (lim 2 m__law_code) (mCons (mVar 0) (mCons (mC (.int 0)) mNil))) (mList (mLst (mCons (mC (.str ("set" : Str))) (mCons (mC (.str ("copy" : Str))) (mCons (mC (.str ("add" : Str))) (mCons (mC (.str ("sub" : Str))) (mCons (mC (.str ("mul" : Str))) (mCons (mC (.str ("div" : Str))) (mCons (mC (.str ("mod" : Str))) (mCons (mC (.str ("less" : Str))) (mCons (mC (.str ("same" : Str))) (mCons (mC (.str ("go" : Str))) (mCons (mC (.str ("if" : Str))) mNil))))))))))))))
def LS1 : En → Option Fl := (sAsg (mList (mCallL dSortedS (mCons (mList (mCatV (mVar 2) (mLst (mCons (mC (.str ("take" : Str))) (mCons (mC (.str ("over" : Str))) (mCons (mC (.str ("field" : Str))) (mCons (mC (.str ("put" : Str))) (mCons (mC (.str ("line" : Str))) (mCons (mC (.str ("mark" : Str))) (mCons (mC (.str ("end" : Str))) mNil)))))))))) mNil))) (gSet 2))
def LS2 : En → Option Fl := (sIf (mOr (mTest (mOp dIsNot (mCall (lim 1 m_is_code) (mCons (mVar 1) mNil)) (mC (.bool true)))) (mOr (mTest (mOp dIsNot (mCall (lim 1 m_is_code) (mCons (mOp dAdd (mVar 1) (mTup (mCons (mTup (mCons (mC (.str ("mark" : Str))) mNil)) mNil))) mNil)) (mC (.bool true)))) (mTest (mOp dIsNot (mCall (lim 1 m_is_code) (mCons (mList (mCallL dLstOf (mCons (mVar 1) mNil))) mNil)) (mC (.bool false))))))
  (sRet (mC (.bool false)))
  sNext)
def LS3 : En → Option Fl := (sOwn 3 (mLst mNil))
def LS4 : En → Option Fl := (sFor (mIter (mVar 1)) (gSet 4)
  (sSeq (sOwn 5 (mLst (mCons (mOp dIndex (mVar 2) (mOp dIx (mVar 4) (mC (.int 0)))) mNil)))
  (sSeq (sFor (mIter (mSl (mVar 4) (mPart (mC (.int 1))) mNoPart)) (gSet 6)
  (sExtend 5 (mIfL (mTru (mUn (dIsi "tuple") (mVar 6))) (mCallL dLstOf (mCons (mVar 6) mNil)) (mLst (mCons (mVar 6) mNil)))))
  (sFrz 5 (sAppend 3 (mCall dTupOf (mCons (mVar 5) mNil)))))))
def LS5 : En → Option Fl := (sAsg (mCall (lim 1 m_code_records) (mCons (mVar 1) mNil)) (gSet 7))
def LS6 : En → Option Fl := (sFrz 3 (sIf (mOr (mTest (mOp dNe (mVar 7) (mCall dTupOf (mCons (mVar 3) mNil)))) (mOr (mTest (mOp dNe (mCall (lim 1 m_code_in) (mCons (mVar 7) mNil)) (mVar 1))) (mNot (mTru (mCall (lim 1 m_are_records) (mCons (mVar 7) mNil))))))
  (sRet (mC (.bool false)))
  sNext))
def LS7 : En → Option Fl := (sOwn 8 (mLc (mIter (mVar 1)) (gSet 4) (mTest (mOp dInL (mOp dIx (mVar 4) (mC (.int 0))) (mList (mLst (mCons (mC (.str ("take" : Str))) (mCons (mC (.str ("over" : Str))) mNil)))))) (mOp dIx (mVar 4) (mC (.int 1))) [4]))
def LS8 : En → Option Fl := (sExtend 8 (mLc (mIter (mVar 1)) (gSet 4) (mTest (mOp dEq (mOp dIx (mVar 4) (mC (.int 0))) (mC (.str ("field" : Str))))) (mOp dIx (mVar 4) (mC (.int 2))) [4]))
def LS9 : En → Option Fl := (sAsg (mList (mSortedSet (mList (mLc (mIter (mVar 1)) (gSet 4) (mTest (mOp dEq (mOp dIx (mVar 4) (mC (.int 0))) (mC (.str ("put" : Str))))) (mOp dIx (mVar 4) (mC (.int 1))) [4])))) (gSet 9))
def LS10 : En → Option Fl := (sFrz 8 (sIf (mTest (mOp dNe (mCall (lim 1 m_slots_of) (mCons (mVar 1) mNil)) (mTup (mCons (mCall dTupOf (mCons (mList (mSortedSet (mVar 8))) mNil)) (mCons (mCall dTupOf (mCons (mVar 9) mNil)) mNil)))))
  (sRet (mC (.bool false)))
  sNext))
def LS11 : En → Option Fl := (sAsg (mCall (lim 3 m__law_pick) (mCons (mVar 0) (mCons (mC (.int 200)) (mCons (mCall dLen (mCons (mVar 7) mNil)) mNil)))) (gSet 10))
def LS12 : En → Option Fl := (sAsg (mList (mLc (mIter (mTup (mCons (mOp dAdd (mOp dIx (mVar 7) (mVar 10)) (mTup (mCons (mC (.int 0)) mNil))) (mCons (mTup (mCons (mC (.int 18)) mNil)) (mCons (mSl (mOp dIx (mVar 7) (mVar 10)) mNoPart (mPart (mC (.int 1)))) mNil))))) (gSet 13) mYes (mOp dAdd (mOp dAdd (mSl (mVar 7) mNoPart (mPart (mVar 10))) (mTup (mCons (mVar 13) mNil))) (mSl (mVar 7) (mPart (mOp dAdd (mVar 10) (mC (.int 1)))) mNoPart)) [13])) (gSet 11))
def LS13 : En → Option Fl := (sFrz 5 (sFor (mZip (mCons (mVar 11) (mCons (mList (mLc (mIter (mVar 11)) (gSet 5) mYes (mCall (lim 1 m_code_in) (mCons (mVar 5) mNil)) [5])) mNil))) (gTupM 2 (gConsM (gSet 5) (gConsM (gSet 12) gNilM)))
  (sFrz 5 (sIf (mAnd (mTest (mOp dIsNot (mVar 12) (mC .none))) (mOr (mTest (mOp dNe (mCall (lim 1 m_code_records) (mCons (mVar 12) mNil)) (mVar 5))) (mTest (mOp dEq (mVar 12) (mVar 1)))))
  (sRet (mC (.bool false)))
  sNext))))
def LS14 : En → Option Fl := (sRet (mAndV (mOp dIs (mCall (lim 1 m_code_in) (mCons (mOp dAdd (mOp dAdd (mSl (mVar 7) mNoPart (mPart (mVar 10))) (mTup (mCons (mTup (mCons (mC (.int 18)) mNil)) mNil))) (mSl (mVar 7) (mPart (mOp dAdd (mVar 10) (mC (.int 1)))) mNoPart)) mNil)) (mC .none)) (mOp dIs (mCall (lim 1 m_code_in) (mCons (mTup mNil) mNil)) (mC .none))))
theorem law_parts : b_law = (sSeq LS0 (sSeq LS1 (sSeq LS2 (sSeq LS3 (sSeq LS4 (sSeq LS5 (sSeq LS6 (sSeq LS7 (sSeq LS8 (sSeq LS9 (sSeq LS10 (sSeq LS11 (sSeq LS12 (sSeq LS13 LS14)))))))))))))) := by kernel_rfl
abbrev vl (d : D) : Option Sl := some (.val d)
def EV (s0 s1 s2 s3 s4 s5 s6 s7 s8 s9 s10 s11 s12 s13 : Option Sl) : En := [s0, s1, s2, s3, s4, s5, s6, s7, s8, s9, s10, s11, s12, s13]
def W0 : D := .list [.str "set", .str "copy", .str "add", .str "sub", .str "mul", .str "div", .str "mod", .str "less", .str "same", .str "go", .str "if"]
theorem is_t {m : En → Option D} {ρ : En} {b c : Bool} (h : m ρ = some (.bool b)) : mTest (mOp dIsNot m (mC (.bool c))) ρ = some (!decide (b = c)) := by
  refine test_of ?_
  rw [op_of h (show mC (.bool c) ρ = some (.bool c) from rfl)]
  rfl
theorem arg1 {f : List D → Option D} {m : En → Option D} {ρ : En} {x : D} (h : m ρ = some x) : mCall (lim 1 f) (mCons m mNil) ρ = f [x] := by rw [call_of (cons_of h nil_of), lim1]
theorem ls0 {L C : D} (h : m__law_code [L, .int 0] = some C) : LS0 (start0 14 [L]) = some (.nx (EV (vl L) (vl C) (vl W0) none none none none none none none none none none none)) := by
  have e1 : mCall (lim 2 m__law_code) (mCons (mVar 0) (mCons (mC (.int 0)) mNil)) (start0 14 [L]) = some C := h
  unfold LS0
  rw [par_set (i := 1) (j := 2) (e := W0) e1 (by rfl)]
  rfl
theorem ls1 (a b : Option Sl) : LS1 (EV a b (vl W0) none none none none none none none none none none none) = some (.nx (EV a b (vl WS) none none none none none none none none none none none)) := by kernel_rfl
theorem ls2 {a c : Option Sl} {ds : List D} (hz : ds.length ≤ 13) (h1 : m_is_code [.tuple ds] = some (.bool true)) (h2 : m_is_code [.tuple (ds ++ [.tuple [.str "mark"]])] = some (.bool true)) :
    LS2 (EV a (vl (.tuple ds)) c none none none none none none none none none none none) = some (.nx (EV a (vl (.tuple ds)) c none none none none none none none none none none none)) := by
  generalize hρ : EV a (vl (.tuple ds)) c none none none none none none none none none none none = ρ
  have v1 : mVar 1 ρ = some (.tuple ds) := by rw [← hρ]; rfl
  have e1 : mCall (lim 1 m_is_code) (mCons (mVar 1) mNil) ρ = some (.bool true) := by rw [arg1 v1, h1]
  have e2 : mCall (lim 1 m_is_code) (mCons (mOp dAdd (mVar 1) (mTup (mCons (mTup (mCons (mC (.str ("mark" : Str))) mNil)) mNil))) mNil) ρ = some (.bool true) := by
    have q : mOp dAdd (mVar 1) (mTup (mCons (mTup (mCons (mC (.str ("mark" : Str))) mNil)) mNil)) ρ = some (.tuple (ds ++ [.tuple [.str "mark"]])) := by
      rw [op_of v1 (show mTup (mCons (mTup (mCons (mC (.str ("mark" : Str))) mNil)) mNil) ρ = some (.tuple [.tuple [.str "mark"]]) from rfl)]
      exact if_pos (Nat.le_trans (show ds.length + 1 ≤ 14 by omega) (by decide))
    rw [arg1 q, h2]
  have e3 : mCall (lim 1 m_is_code) (mCons (mList (mCallL dLstOf (mCons (mVar 1) mNil))) mNil) ρ = some (.bool false) := by
    have q : mList (mCallL dLstOf (mCons (mVar 1) mNil)) ρ = some (.list ds) := by
      refine list_of ?_
      unfold mCallL
      rw [cons_of v1 nil_of]
      rfl
    rw [arg1 q]
    rfl
  unfold LS2
  rw [if_f (by rw [or_f (is_t e1), or_f (is_t e2), is_t e3]; rfl)]
  rfl
theorem ls3 (a b c : Option Sl) : LS3 (EV a b c none none none none none none none none none none none) = some (.nx (EV a b c (some (.own [])) none none none none none none none none none none)) := by rfl
def nOwn (s : Option Sl) : Prop := match s with
  | some (.own _) => False
  | _ => True
theorem seq_in {a b c : En → Option Fl} {ρ ρ2 : En} (h : sSeq a b ρ = some (.nx ρ2)) : sSeq a (sSeq b c) ρ = c ρ2 := by
  unfold sSeq at h ⊢
  cases e : a ρ with
  | none => rw [e] at h; cases h
  | some f =>
    rw [e] at h
    cases f with
    | nx ρ1 =>
      have h' : b ρ1 = some (.nx ρ2) := h
      show ((b ρ1).bind fun f => _) = _
      rw [h']
      rfl
    | _ => cases h
theorem ls4_loop {L C : D} {m : Nat} : ∀ (ds rows : List D) (s4 s5 s6 : Option Sl), (∀ st ∈ ds, Fc m st) → rows.length + ds.length ≤ 100 → nOwn s5 →
    ∃ s4' s5' s6', loop (gSet 4) (sSeq lawA (sSeq lawB (sFrz 5 (sAppend 3 (mCall dTupOf (mCons (mVar 5) mNil)))))) ds (EV (vl L) (vl C) (vl WS) (some (.own rows)) s4 s5 s6 none none none none none none none) =
      some (.nx (EV (vl L) (vl C) (vl WS) (some (.own (rows ++ ds.map fun st => .tuple (rowOf st)))) s4' s5' s6' none none none none none none none)) ∧ nOwn s5'
  | [], rows, s4, s5, s6, _, _, n => ⟨s4, s5, s6, by rw [List.map_nil, List.append_nil]; rfl, n⟩
  | st :: ds, rows, s4, s5, s6, hf, hz, n => by
    have F := hf st List.mem_cons_self
    have hz2 : rows.length + ds.length + 1 ≤ 100 := by simpa [Nat.add_assoc] using hz
    obtain ⟨s4', s5', s6', h, n'⟩ := ls4_loop (L := L) (C := C) (m := m) ds (rows ++ [.tuple (rowOf st)]) (vl st) (vl (.list (rowOf st))) (vl (lastP st)) (fun x hx => hf x (List.mem_cons_of_mem _ hx)) (by rw [List.length_append]; simp; omega) trivial
    refine ⟨s4', s5', s6', ?_, n'⟩
    rw [List.append_assoc] at h
    have b1 := F.row (vl L) (vl C) (some (.own rows)) s5 s6
    have b2 : sFrz 5 (sAppend 3 (mCall dTupOf (mCons (mVar 5) mNil))) (lenv (vl L) (vl C) (some (.own rows)) (some (.own (rowOf st))) (some (.val (lastP st))) st) =
        some (.nx (EV (vl L) (vl C) (vl WS) (some (.own (rows ++ [.tuple (rowOf st)]))) (vl st) (vl (.list (rowOf st))) (vl (lastP st)) none none none none none none none)) := by
      show (if rows.length < cap then some (Fl.nx (EV (vl L) (vl C) (vl WS) (some (.own (rows ++ [.tuple (rowOf st)]))) (vl st) (vl (.list (rowOf st))) (vl (lastP st)) none none none none none none none)) else none) = _
      rw [if_pos (Nat.lt_of_lt_of_le (show rows.length < 100 by omega) (by decide))]
    have b3 : sSeq lawA (sSeq lawB (sFrz 5 (sAppend 3 (mCall dTupOf (mCons (mVar 5) mNil))))) (EV (vl L) (vl C) (vl WS) (some (.own rows)) (vl st) s5 s6 none none none none none none none) =
        some (.nx (EV (vl L) (vl C) (vl WS) (some (.own (rows ++ [.tuple (rowOf st)]))) (vl st) (vl (.list (rowOf st))) (vl (lastP st)) none none none none none none none)) := (seq_in b1).trans b2
    have u : loop (gSet 4) (sSeq lawA (sSeq lawB (sFrz 5 (sAppend 3 (mCall dTupOf (mCons (mVar 5) mNil)))))) (st :: ds) (EV (vl L) (vl C) (vl WS) (some (.own rows)) s4 s5 s6 none none none none none none none) =
      ((sSeq lawA (sSeq lawB (sFrz 5 (sAppend 3 (mCall dTupOf (mCons (mVar 5) mNil)))))) (EV (vl L) (vl C) (vl WS) (some (.own rows)) (vl st) s5 s6 none none none none none none none)).bind fun f => match f with
        | .nx ρ2 => loop (gSet 4) (sSeq lawA (sSeq lawB (sFrz 5 (sAppend 3 (mCall dTupOf (mCons (mVar 5) mNil)))))) ds ρ2
        | .ct ρ2 => loop (gSet 4) (sSeq lawA (sSeq lawB (sFrz 5 (sAppend 3 (mCall dTupOf (mCons (mVar 5) mNil)))))) ds ρ2
        | .bk ρ2 => some (.nx ρ2)
        | .rt d => some (.rt d) := rfl
    rw [u, b3]
    exact h
theorem ls4 {L : D} {m : Nat} {ds : List D} (hf : ∀ st ∈ ds, Fc m st) (hz : ds.length ≤ 13) : ∃ s4' s5' s6', LS4 (EV (vl L) (vl (.tuple ds)) (vl WS) (some (.own [])) none none none none none none none none none none) =
      some (.nx (EV (vl L) (vl (.tuple ds)) (vl WS) (some (.own (ds.map fun st => .tuple (rowOf st)))) s4' s5' s6' none none none none none none none)) ∧ nOwn s5' := by
  obtain ⟨a, b, c, h, n⟩ := ls4_loop (L := L) (C := .tuple ds) ds [] none none none hf (by simp; omega) trivial
  exact ⟨a, b, c, h, n⟩
theorem rows_map {m : Nat} {ds : List D} (hf : ∀ st ∈ ds, Fc m st) : (ds.map fun st => PyData.tuple (rowOf st)).map (fun r => (m__read_step [r]).getD .none) = ds := by
  rw [List.map_map]
  have : ds.map ((fun r => (m__read_step [r]).getD .none) ∘ fun st => PyData.tuple (rowOf st)) = ds.map id := List.map_congr_left fun st hst => by
    show (m__read_step [.tuple (rowOf st)]).getD .none = st
    rw [(hf st hst).rd]
    rfl
  rw [this, List.map_id]
theorem ls5 {a c s3 s4 s5 s6 : Option Sl} {m : Nat} {ds : List D} (hf : ∀ st ∈ ds, Fc m st) (hz : ds.length ≤ 13) (h1 : m_is_code [.tuple ds] = some (.bool true)) :
    LS5 (EV a (vl (.tuple ds)) c s3 s4 s5 s6 none none none none none none none) = some (.nx (EV a (vl (.tuple ds)) c s3 s4 s5 s6 (vl (.tuple (ds.map fun st => .tuple (rowOf st)))) none none none none none none)) := by
  have e : mCall (lim 1 m_code_records) (mCons (mVar 1) mNil) (EV a (vl (.tuple ds)) c s3 s4 s5 s6 none none none none none none none) = some (.tuple (ds.map fun st => .tuple (rowOf st))) := by
    rw [arg1 (show mVar 1 _ = some (.tuple ds) from rfl)]
    exact code_records_eq (Nat.le_trans hz (by decide)) h1 fun st hst => (hf st hst).wr
  unfold LS5
  rw [asg_set e]
  rfl
theorem told_recs {m : Nat} {ds : List D} (hf : ∀ st ∈ ds, Fc m st) (hz : ds.length ≤ 13) : m_are_records [.tuple (ds.map fun st => .tuple (rowOf st))] = some (.bool true) := by
  have ok : ∀ x ∈ (ds.map fun st => PyData.tuple (rowOf st)), R.okLen x := fun x hx => by
    obtain ⟨st, hst, rfl⟩ := List.mem_map.mp hx
    exact Nat.le_trans (hf st hst).len.1 (by decide)
  rw [k_recs, R.recs_eq (.tuple (ds.map fun st => PyData.tuple (rowOf st))) (show (ds.map fun st => PyData.tuple (rowOf st)).length ≤ cap by rw [List.length_map]; exact Nat.le_trans hz (by decide)) fun es e x hx => by cases e; exact ok x hx]
  have all : (ds.map fun st => PyData.tuple (rowOf st)).all R.isRec = true := by
    rw [List.all_eq_true]
    intro x hx
    have := ok x hx
    obtain ⟨st, hst, rfl⟩ := List.mem_map.mp hx
    have r1 := (hf st hst).isr
    rw [k_rec, R.rec_eq _ this] at r1
    exact PyData.bool.inj (Option.some.inj r1)
  show some (PyData.bool ((!decide ((30 : Int) < (ds.map fun st => PyData.tuple (rowOf st)).length)) && (ds.map fun st => PyData.tuple (rowOf st)).all R.isRec)) = _
  rw [all, List.length_map, decide_eq_false (by omega)]
  rfl
theorem told_in {m : Nat} {ds : List D} (hf : ∀ st ∈ ds, Fc m st) (hz : ds.length ≤ 13) (h1 : m_is_code [.tuple ds] = some (.bool true)) : m_code_in [.tuple (ds.map fun st => .tuple (rowOf st))] = some (.tuple ds) := by
  have := code_in_eq (rows := ds.map fun st => .tuple (rowOf st)) (rd := fun r => (m__read_step [r]).getD .none) (b := true) (by rw [List.length_map]; exact Nat.le_trans hz (by decide)) (fun r hr => by
    obtain ⟨st, hst, rfl⟩ := List.mem_map.mp hr
    exact (hf st hst).isr) (fun r hr => by
    obtain ⟨st, hst, rfl⟩ := List.mem_map.mp hr
    rw [(hf st hst).rd]
    rfl) (by rw [rows_map hf]; exact h1)
  rw [rows_map hf] at this
  exact this
theorem ls6 {a c s4 s5 s6 : Option Sl} {m : Nat} {ds : List D} (hf : ∀ st ∈ ds, Fc m st) (hz : ds.length ≤ 13) (h1 : m_is_code [.tuple ds] = some (.bool true)) :
    LS6 (EV a (vl (.tuple ds)) c (some (.own (ds.map fun st => .tuple (rowOf st)))) s4 s5 s6 (vl (.tuple (ds.map fun st => .tuple (rowOf st)))) none none none none none none) =
      some (.nx (EV a (vl (.tuple ds)) c (vl (.list (ds.map fun st => .tuple (rowOf st)))) s4 s5 s6 (vl (.tuple (ds.map fun st => .tuple (rowOf st)))) none none none none none none)) := by
  unfold LS6
  show sIf _ _ _ (EV a (vl (.tuple ds)) c (vl (.list (ds.map fun st => .tuple (rowOf st)))) s4 s5 s6 (vl (.tuple (ds.map fun st => .tuple (rowOf st)))) none none none none none none) = _
  generalize hρ : EV a (vl (.tuple ds)) c (vl (.list (ds.map fun st => .tuple (rowOf st)))) s4 s5 s6 (vl (.tuple (ds.map fun st => .tuple (rowOf st)))) none none none none none none = ρ
  have v1 : mVar 1 ρ = some (.tuple ds) := by rw [← hρ]; rfl
  have v3 : mVar 3 ρ = some (.list (ds.map fun st => .tuple (rowOf st))) := by rw [← hρ]; rfl
  have v7 : mVar 7 ρ = some (.tuple (ds.map fun st => .tuple (rowOf st))) := by rw [← hρ]; rfl
  obtain ⟨sh1, cl1⟩ := shaped_tup (ds := ds.map fun st => .tuple (rowOf st)) fun x hx => by
    obtain ⟨st, hst, rfl⟩ := List.mem_map.mp hx
    exact (hf st hst).lay.2.1
  obtain ⟨sh2, cl2⟩ := shaped_tup (ds := ds) fun x hx => (hf x hx).lay.1
  have t1 : mTest (mOp dNe (mVar 7) (mCall dTupOf (mCons (mVar 3) mNil))) ρ = some false := by
    have e : mCall dTupOf (mCons (mVar 3) mNil) ρ = some (.tuple (ds.map fun st => .tuple (rowOf st))) := by rw [call_of (cons_of v3 nil_of)]; rfl
    refine test_of ?_
    rw [op_of v7 e, dNe_of sh1 sh1, SeqAt.eqv_refl _ cl1]
    rfl
  have t2 : mTest (mOp dNe (mCall (lim 1 m_code_in) (mCons (mVar 7) mNil)) (mVar 1)) ρ = some false := by
    have e : mCall (lim 1 m_code_in) (mCons (mVar 7) mNil) ρ = some (.tuple ds) := by rw [arg1 v7]; exact told_in hf hz h1
    refine test_of ?_
    rw [op_of e v1, dNe_of sh2 sh2, SeqAt.eqv_refl _ cl2]
    rfl
  have t3 : mNot (mTru (mCall (lim 1 m_are_records) (mCons (mVar 7) mNil))) ρ = some false := by
    have e : mCall (lim 1 m_are_records) (mCons (mVar 7) mNil) ρ = some (.bool true) := by rw [arg1 v7]; exact told_recs hf hz
    rw [not_of (tru_of e)]
    rfl
  rw [if_f (by rw [or_f t1, or_f t2, t3])]
  rfl
end DD

set_option Elab.async false
set_option linter.all false
set_option maxRecDepth 100000
set_option maxHeartbeats 4000000
namespace DD
open PySem PySem.Spec PyProof.Rows L2
theorem word_at {m : Nat} {st : D} (F : Fc m st) {ρ : En} (hv : ρ[4]? = some (some (.val st))) : mOp dIx (mVar 4) (mC (.int 0)) ρ = some (.str (wd st)) := by
  rw [op_of (var_of hv) (show mC (.int 0) ρ = some (.int 0) from rfl)]
  exact F.word
theorem ls7 {a c s3 s4 s5 s6 s7 : Option Sl} {m : Nat} {ds : List D} (hf : ∀ st ∈ ds, Fc m st) (hz : ds.length ≤ 13) :
    LS7 (EV a (vl (.tuple ds)) c s3 s4 s5 s6 s7 none none none none none none) = some (.nx (EV a (vl (.tuple ds)) c s3 s4 s5 s6 s7 (some (.own ((ds.filter isTO).map fun st => .int (c1 st)))) none none none none none)) := by
  have e := lc_if (it := mIter (mVar 1)) (g := gSet 4) (c := mTest (mOp dInL (mOp dIx (mVar 4) (mC (.int 0))) (mList (mLst (mCons (mC (.str ("take" : Str))) (mCons (mC (.str ("over" : Str))) mNil)))))) (e := mOp dIx (mVar 4) (mC (.int 1)))
    (ρ := EV a (vl (.tuple ds)) c s3 s4 s5 s6 s7 none none none none none none) (vs := [4]) (ds := ds) (p := isTO) (f := fun st => .int (c1 st)) rfl (Nat.le_trans hz (by decide)) fun d hd => by
      have F := hf d hd
      refine ⟨EV a (vl (.tuple ds)) c s3 (vl d) s5 s6 s7 none none none none none none, rfl, test_of ?_, fun h => ?_⟩
      · rw [op_of (word_at F rfl) (show mList (mLst (mCons (mC (.str ("take" : Str))) (mCons (mC (.str ("over" : Str))) mNil))) _ = some (.list [.str ("take" : Str), .str ("over" : Str)]) from rfl)]
        exact F.eto
      · rw [op_of (show mVar 4 _ = some d from rfl) (show mC (.int 1) _ = some (.int 1) from rfl)]
        exact F.one (.inl h)
  unfold LS7 sOwn
  rw [e]
  rfl
theorem ls8 {a c s3 s4 s5 s6 s7 : Option Sl} {m : Nat} {ds : List D} (hf : ∀ st ∈ ds, Fc m st) (hz : ds.length ≤ 13) (xs : List D) (hx : xs.length ≤ 13) :
    LS8 (EV a (vl (.tuple ds)) c s3 s4 s5 s6 s7 (some (.own xs)) none none none none none) = some (.nx (EV a (vl (.tuple ds)) c s3 s4 s5 s6 s7 (some (.own (xs ++ (ds.filter isF).map fun st => .int (c2 st)))) none none none none none)) := by
  have e := lc_if (it := mIter (mVar 1)) (g := gSet 4) (c := mTest (mOp dEq (mOp dIx (mVar 4) (mC (.int 0))) (mC (.str ("field" : Str))))) (e := mOp dIx (mVar 4) (mC (.int 2)))
    (ρ := EV a (vl (.tuple ds)) c s3 s4 s5 s6 s7 (some (.own xs)) none none none none none) (vs := [4]) (ds := ds) (p := isF) (f := fun st => .int (c2 st)) rfl (Nat.le_trans hz (by decide)) fun d hd => by
      have F := hf d hd
      refine ⟨EV a (vl (.tuple ds)) c s3 (vl d) s5 s6 s7 (some (.own xs)) none none none none none, rfl, test_of ?_, fun h => ?_⟩
      · rw [op_of (word_at F rfl) (show mC (.str ("field" : Str)) _ = some (.str ("field" : Str)) from rfl)]
        exact F.efi
      · rw [op_of (show mVar 4 _ = some d from rfl) (show mC (.int 2) _ = some (.int 2) from rfl)]
        exact F.two h
  have fl : ((ds.filter isF).map fun st => PyData.int (c2 st)).length ≤ 13 := by
    rw [List.length_map]
    exact Nat.le_trans (List.length_filter_le _ _) hz
  unfold LS8
  show ((mLc _ _ _ _ _ _).bind fun es => if xs.length + es.length ≤ cap then _ else none) = _
  rw [e]
  show (if xs.length + ((ds.filter isF).map fun st => PyData.int (c2 st)).length ≤ cap then _ else none) = _
  rw [if_pos (Nat.le_trans (show _ ≤ 26 by omega) (by decide))]
  rfl
def puts (ds : List D) : List Int := (ds.filter isPut).map c1
def takes (ds : List D) : List Int := (ds.filter isTO).map c1 ++ (ds.filter isF).map c2
theorem ls9 {a c s3 s4 s5 s6 s7 s8 : Option Sl} {m : Nat} {ds : List D} (hf : ∀ st ∈ ds, Fc m st) (hz : ds.length ≤ 13) :
    LS9 (EV a (vl (.tuple ds)) c s3 s4 s5 s6 s7 s8 none none none none none) = some (.nx (EV a (vl (.tuple ds)) c s3 s4 s5 s6 s7 s8 (vl (.list ((sset (puts ds)).map .int))) none none none none)) := by
  have e := lc_if (it := mIter (mVar 1)) (g := gSet 4) (c := mTest (mOp dEq (mOp dIx (mVar 4) (mC (.int 0))) (mC (.str ("put" : Str))))) (e := mOp dIx (mVar 4) (mC (.int 1)))
    (ρ := EV a (vl (.tuple ds)) c s3 s4 s5 s6 s7 s8 none none none none none) (vs := [4]) (ds := ds) (p := isPut) (f := fun st => .int (c1 st)) rfl (Nat.le_trans hz (by decide)) fun d hd => by
      have F := hf d hd
      refine ⟨EV a (vl (.tuple ds)) c s3 (vl d) s5 s6 s7 s8 none none none none none, rfl, test_of ?_, fun h => ?_⟩
      · rw [op_of (word_at F rfl) (show mC (.str ("put" : Str)) _ = some (.str ("put" : Str)) from rfl)]
        exact F.eput
      · rw [op_of (show mVar 4 _ = some d from rfl) (show mC (.int 1) _ = some (.int 1) from rfl)]
        exact F.one (.inr h)
  have r : ((ds.filter isPut).map fun st => PyData.int (c1 st)) = (puts ds).map .int := by unfold puts; rw [List.map_map]; rfl
  rw [r] at e
  have l : (puts ds).length ≤ 13 := by unfold puts; rw [List.length_map]; exact Nat.le_trans (List.length_filter_le _ _) hz
  have e2 : mSortedSet (mList (mLc (mIter (mVar 1)) (gSet 4) (mTest (mOp dEq (mOp dIx (mVar 4) (mC (.int 0))) (mC (.str ("put" : Str))))) (mOp dIx (mVar 4) (mC (.int 1))) [4])) (EV a (vl (.tuple ds)) c s3 s4 s5 s6 s7 s8 none none none none none) = some ((sset (puts ds)).map .int) := by
    unfold mSortedSet
    rw [list_of e]
    show ((intsD ((puts ds).map .int)).bind fun ns => if ns.length < 63 then some ((sset ns).map PyData.int) else none) = _
    rw [ints_map]
    show (if (puts ds).length < 63 then _ else none) = _
    rw [if_pos (by omega)]
  unfold LS9
  rw [asg_set (list_of e2)]
  rfl
theorem puts_same (ds : List D) : sset ((ds.map putI).flatten) = sset (puts ds) := sset_same fun z => by
  unfold puts putI
  simp only [List.mem_flatten, List.mem_map, List.mem_filter]
  constructor
  · rintro ⟨l, ⟨d, hd, rfl⟩, hz⟩
    cases h : isPut d with
    | true => rw [h] at hz; exact ⟨d, ⟨hd, h⟩, by simpa using (List.mem_singleton.mp hz).symm⟩
    | false => rw [h] at hz; cases hz
  · rintro ⟨d, ⟨hd, h⟩, rfl⟩
    exact ⟨_, ⟨d, hd, rfl⟩, by rw [h]; simp⟩
theorem takes_same (ds : List D) : sset ((ds.map readI).flatten) = sset (takes ds) := sset_same fun z => by
  unfold takes readI
  simp only [List.mem_flatten, List.mem_map, List.mem_filter, List.mem_append]
  constructor
  · rintro ⟨l, ⟨d, hd, rfl⟩, hz⟩
    rcases List.mem_append.mp hz with h | h
    · cases q : isTO d with
      | true => rw [q] at h; exact .inl ⟨d, ⟨hd, q⟩, (List.mem_singleton.mp h).symm⟩
      | false => rw [q] at h; cases h
    · cases q : isF d with
      | true => rw [q] at h; exact .inr ⟨d, ⟨hd, q⟩, (List.mem_singleton.mp h).symm⟩
      | false => rw [q] at h; cases h
  · rintro (⟨d, ⟨hd, h⟩, rfl⟩ | ⟨d, ⟨hd, h⟩, rfl⟩)
    · exact ⟨_, ⟨d, hd, rfl⟩, List.mem_append_left _ (by rw [h]; simp)⟩
    · exact ⟨_, ⟨d, hd, rfl⟩, List.mem_append_right _ (by rw [h]; simp)⟩
theorem lays_ints (ns : List Int) : lays (.tuple (ns.map .int)) = true := by
  have h1 : ∀ ns : List Int, PyData.canLayAll0 (ns.map PyData.int) = true := by
    intro ns
    induction ns with
    | nil => simp [PyData.canLayAll0]
    | cons n r ih => simp [PyData.canLayAll0, PyData.canLay0, ih]
  have h2 : ∀ ns : List Int, PyData.depthAll (ns.map PyData.int) = 0 := by
    intro ns
    induction ns with
    | nil => simp [PyData.depthAll]
    | cons n r ih => simp [PyData.depthAll, PyData.depth, ih]
  unfold lays
  simp [PyData.canLay0, PyData.depth, h1, h2]
theorem ls10 {a c s3 s4 s5 s6 s7 : Option Sl} {m : Nat} {ds : List D} (hf : ∀ st ∈ ds, Fc m st) (hz : ds.length ≤ 13) (h1 : m_is_code [.tuple ds] = some (.bool true)) :
    LS10 (EV a (vl (.tuple ds)) c s3 s4 s5 s6 s7 (some (.own ((takes ds).map .int))) (vl (.list ((sset (puts ds)).map .int))) none none none none) = some (.nx (EV a (vl (.tuple ds)) c s3 s4 s5 s6 s7 (vl (.list ((takes ds).map .int))) (vl (.list ((sset (puts ds)).map .int))) none none none none)) := by
  unfold LS10
  show sIf _ _ _ (EV a (vl (.tuple ds)) c s3 s4 s5 s6 s7 (vl (.list ((takes ds).map .int))) (vl (.list ((sset (puts ds)).map .int))) none none none none) = _
  generalize hρ : EV a (vl (.tuple ds)) c s3 s4 s5 s6 s7 (vl (.list ((takes ds).map .int))) (vl (.list ((sset (puts ds)).map .int))) none none none none = ρ
  have v1 : mVar 1 ρ = some (.tuple ds) := by rw [← hρ]; rfl
  have v8 : mVar 8 ρ = some (.list ((takes ds).map .int)) := by rw [← hρ]; rfl
  have v9 : mVar 9 ρ = some (.list ((sset (puts ds)).map .int)) := by rw [← hρ]; rfl
  have l : (takes ds).length ≤ 26 := by
    unfold takes
    rw [List.length_append, List.length_map, List.length_map]
    have := List.length_filter_le isTO ds
    have := List.length_filter_le isF ds
    omega
  have e1 : mCall (lim 1 m_slots_of) (mCons (mVar 1) mNil) ρ = some (.tuple [.tuple ((sset (takes ds)).map .int), .tuple ((sset (puts ds)).map .int)]) := by
    rw [arg1 v1, slots_eq hz h1 hf, takes_same, puts_same]
  have e2 : mSortedSet (mVar 8) ρ = some ((sset (takes ds)).map .int) := by
    unfold mSortedSet
    rw [v8]
    show ((intsD ((takes ds).map .int)).bind fun ns => if ns.length < 63 then some ((sset ns).map PyData.int) else none) = _
    rw [ints_map]
    show (if (takes ds).length < 63 then _ else none) = _
    rw [if_pos (by omega)]
  have e3 : mTup (mCons (mCall dTupOf (mCons (mList (mSortedSet (mVar 8))) mNil)) (mCons (mCall dTupOf (mCons (mVar 9) mNil)) mNil)) ρ = some (.tuple [.tuple ((sset (takes ds)).map .int), .tuple ((sset (puts ds)).map .int)]) := by
    refine tup_of (cons_of (x := .tuple ((sset (takes ds)).map .int)) ?_ (cons_of (x := .tuple ((sset (puts ds)).map .int)) ?_ nil_of)) (by show 2 ≤ cap; decide)
    · rw [call_of (cons_of (list_of e2) nil_of)]
      rfl
    · rw [call_of (cons_of v9 nil_of)]
      rfl
  obtain ⟨sh, cl⟩ := shaped_tup (ds := [.tuple ((sset (takes ds)).map .int), .tuple ((sset (puts ds)).map .int)]) fun x hx => by
    simp only [List.mem_cons, List.not_mem_nil, or_false] at hx
    rcases hx with rfl | rfl <;> exact lays_ints _
  have t : mTest (mOp dNe (mCall (lim 1 m_slots_of) (mCons (mVar 1) mNil)) (mTup (mCons (mCall dTupOf (mCons (mList (mSortedSet (mVar 8))) mNil)) (mCons (mCall dTupOf (mCons (mVar 9) mNil)) mNil)))) ρ = some false := by
    refine test_of ?_
    rw [op_of e1 e3, dNe_of sh sh, SeqAt.eqv_refl _ cl]
    rfl
  rw [if_f t]
  rfl
theorem ls11 {L c s3 s4 s5 s6 s8 s9 b : Option Sl} {sc : D} {rows : List D} {k : Int} (hz : rows.length ≤ 13) (h : m__law_pick [sc, .int 200, .int rows.length] = some (.int k)) :
    LS11 (EV (vl sc) b c s3 s4 s5 s6 (vl (.tuple rows)) s8 s9 none none none none) = some (.nx (EV (vl sc) b c s3 s4 s5 s6 (vl (.tuple rows)) s8 s9 (vl (.int k)) none none none)) := by
  have ln : mCall dLen (mCons (mVar 7) mNil) (EV (vl sc) b c s3 s4 s5 s6 (vl (.tuple rows)) s8 s9 none none none none) = some (.int rows.length) := by
    rw [call_of (cons_of (show mVar 7 _ = some (.tuple rows) from rfl) nil_of), dLen_tup (Nat.le_trans hz (by decide))]
  have e : mCall (lim 3 m__law_pick) (mCons (mVar 0) (mCons (mC (.int 200)) (mCons (mCall dLen (mCons (mVar 7) mNil)) mNil))) (EV (vl sc) b c s3 s4 s5 s6 (vl (.tuple rows)) s8 s9 none none none none) = some (.int k) := by
    rw [call_of (cons_of (show mVar 0 _ = some sc from rfl) (cons_of (show mC (.int 200) _ = some (.int 200) from rfl) (cons_of ln nil_of))), lim3]
    exact h
  unfold LS11
  rw [asg_set e]
  rfl
end DD

set_option Elab.async false
set_option linter.all false
set_option maxRecDepth 100000
set_option maxHeartbeats 4000000
namespace DD
open PySem PySem.Spec PyProof.Rows L2
theorem atI_mid (P : List D) (x : D) (Q : List D) : atI (P ++ x :: Q) (P.length : Int) = some x := by
  unfold L2.atI L2.ixN
  rw [if_pos (by omega), if_pos (by rw [List.length_append, List.length_cons]; omega)]
  show (P ++ x :: Q)[(P.length : Int).toNat]? = some x
  rw [Int.toNat_natCast, List.getElem?_append_right (Nat.le_refl _), Nat.sub_self]
  rfl
theorem cut_lo (P : List D) (x : D) (Q : List D) : cutD (P ++ x :: Q) none (some (P.length : Int)) = P := by
  unfold cutD
  rw [HT.sIx_nat, HT.sIx_none, Nat.sub_zero, List.drop_zero, Nat.min_eq_left (by rw [List.length_append]; omega)]
  simp
theorem cut_hi (P : List D) (x : D) (Q : List D) : cutD (P ++ x :: Q) (some ((P.length : Int) + 1)) none = Q := by
  have e : ((P.length : Int) + 1) = ((P.length + 1 : Nat) : Int) := by omega
  unfold cutD
  rw [e, HT.sIx_nat, HT.sIx_none, Nat.min_eq_left (by rw [List.length_append, List.length_cons]; omega)]
  have : (P ++ x :: Q).drop (P.length + 1) = Q := by
    rw [List.drop_append]
    simp
  rw [this, List.take_of_length_le]
  rw [List.length_append, List.length_cons]
  omega
/-- told, with x at the place of the row of one step -/
def TT (A B : List D) (x : D) : D := .tuple ((A.map fun st => .tuple (rowOf st)) ++ x :: B.map fun st => .tuple (rowOf st))
theorem told_TT (A B : List D) (st : D) : PyData.tuple ((A ++ st :: B).map fun st => .tuple (rowOf st)) = TT A B (.tuple (rowOf st)) := by
  unfold TT
  rw [List.map_append, List.map_cons]
theorem TT_add {A B : List D} {x st : D} {ρ : En} {e : En → Option D} {k : Int} (hz : A.length + B.length ≤ 20) (h7 : mVar 7 ρ = some (TT A B (.tuple (rowOf st)))) (hk : mVar 10 ρ = some (.int (A.length : Int))) (he : e ρ = some x) :
    mOp dAdd (mOp dAdd (mSl (mVar 7) mNoPart (mPart (mVar 10))) (mTup (mCons e mNil))) (mSl (mVar 7) (mPart (mOp dAdd (mVar 10) (mC (.int 1)))) mNoPart) ρ = some (TT A B x) := by
  have al : ((A.map fun st => PyData.tuple (rowOf st)).length : Int) = A.length := by rw [List.length_map]
  have s1 : mSl (mVar 7) mNoPart (mPart (mVar 10)) ρ = some (.tuple (A.map fun st => .tuple (rowOf st))) := by
    have p1 : mPart (mVar 10) ρ = some (some (A.length : Int)) := by unfold mPart; rw [hk]; rfl
    unfold mSl
    rw [h7]
    show ((mPart (mVar 10) ρ).bind fun hi => dSl (TT A B (.tuple (rowOf st))) none hi) = _
    rw [p1]
    show some (PyData.tuple (cutD ((A.map fun st => .tuple (rowOf st)) ++ .tuple (rowOf st) :: B.map fun st => .tuple (rowOf st)) none (some (A.length : Int)))) = _
    rw [← al, cut_lo]
  have s2 : mSl (mVar 7) (mPart (mOp dAdd (mVar 10) (mC (.int 1)))) mNoPart ρ = some (.tuple (B.map fun st => .tuple (rowOf st))) := by
    have p1 : mPart (mOp dAdd (mVar 10) (mC (.int 1))) ρ = some (some ((A.length : Int) + 1)) := by
      unfold mPart
      rw [op_of hk (show mC (.int 1) ρ = some (.int 1) from rfl)]
      rfl
    unfold mSl
    rw [h7]
    show ((mPart (mOp dAdd (mVar 10) (mC (.int 1))) ρ).bind fun lo => dSl (TT A B (.tuple (rowOf st))) lo none) = _
    rw [p1]
    show some (PyData.tuple (cutD ((A.map fun st => .tuple (rowOf st)) ++ .tuple (rowOf st) :: B.map fun st => .tuple (rowOf st)) (some ((A.length : Int) + 1)) none)) = _
    rw [← al, cut_hi]
  have s3 : mTup (mCons e mNil) ρ = some (.tuple [x]) := tup_of (cons_of he nil_of) (by show 1 ≤ cap; decide)
  have s4 : mOp dAdd (mSl (mVar 7) mNoPart (mPart (mVar 10))) (mTup (mCons e mNil)) ρ = some (.tuple ((A.map fun st => .tuple (rowOf st)) ++ [x])) := by
    rw [op_of s1 s3]
    exact if_pos (by rw [List.length_map]; exact Nat.le_trans (show A.length + 1 ≤ 21 by omega) (by decide))
  rw [op_of s4 s2]
  show (if _ ≤ cap then some (PyData.tuple (((A.map fun st => .tuple (rowOf st)) ++ [x]) ++ B.map fun st => .tuple (rowOf st))) else none) = _
  rw [if_pos (by rw [List.length_append, List.length_map, List.length_map]; exact Nat.le_trans (show A.length + 1 + B.length ≤ 21 by omega) (by decide)), List.append_assoc]
  rfl
def X0 (st : D) : D := .tuple (rowOf st ++ [.int 0])
def X1 : D := .tuple [.int 18]
def X2 (st : D) : D := .tuple (cutD (rowOf st) none (some 1))
theorem ls12 {a b c s3 s4 s5 s6 s8 s9 : Option Sl} {A B : List D} {st : D} {m : Nat} (F : Fc m st) (hz : A.length + B.length ≤ 20) :
    LS12 (EV a b c s3 s4 s5 s6 (vl (TT A B (.tuple (rowOf st)))) s8 s9 (vl (.int (A.length : Int))) none none none) =
      some (.nx (EV a b c s3 s4 s5 s6 (vl (TT A B (.tuple (rowOf st)))) s8 s9 (vl (.int (A.length : Int))) (vl (.list [TT A B (X0 st), TT A B X1, TT A B (X2 st)])) none none)) := by
  have e : mLc (mIter (mTup (mCons (mOp dAdd (mOp dIx (mVar 7) (mVar 10)) (mTup (mCons (mC (.int 0)) mNil))) (mCons (mTup (mCons (mC (.int 18)) mNil)) (mCons (mSl (mOp dIx (mVar 7) (mVar 10)) mNoPart (mPart (mC (.int 1)))) mNil))))) (gSet 13) mYes (mOp dAdd (mOp dAdd (mSl (mVar 7) mNoPart (mPart (mVar 10))) (mTup (mCons (mVar 13) mNil))) (mSl (mVar 7) (mPart (mOp dAdd (mVar 10) (mC (.int 1)))) mNoPart)) [13]
      (EV a b c s3 s4 s5 s6 (vl (TT A B (.tuple (rowOf st)))) s8 s9 (vl (.int (A.length : Int))) none none none) = some ([X0 st, X1, X2 st].map (TT A B)) := by
    refine lc_of (iter_tup ?_) (by show 3 ≤ cap; decide) fun d hd => ⟨EV a b c s3 s4 s5 s6 (vl (TT A B (.tuple (rowOf st)))) s8 s9 (vl (.int (A.length : Int))) none none (vl d), rfl, TT_add (st := st) (k := 0) hz rfl rfl rfl⟩
    generalize hρ : EV a b c s3 s4 s5 s6 (vl (TT A B (.tuple (rowOf st)))) s8 s9 (vl (.int (A.length : Int))) none none none = ρ
    have v7 : mVar 7 ρ = some (TT A B (.tuple (rowOf st))) := by rw [← hρ]; rfl
    have v10 : mVar 10 ρ = some (.int (A.length : Int)) := by rw [← hρ]; rfl
    have ix : mOp dIx (mVar 7) (mVar 10) ρ = some (.tuple (rowOf st)) := by
      rw [op_of v7 v10]
      show atI ((A.map fun st => PyData.tuple (rowOf st)) ++ PyData.tuple (rowOf st) :: B.map fun st => PyData.tuple (rowOf st)) (A.length : Int) = _
      have al : (A.length : Int) = ((A.map fun st => PyData.tuple (rowOf st)).length : Int) := by rw [List.length_map]
      rw [al, atI_mid]
    refine tup_of (cons_of (x := X0 st) ?_ (cons_of (x := X1) rfl (cons_of (x := X2 st) ?_ nil_of))) (by show 3 ≤ cap; decide)
    · rw [op_of ix (show mTup (mCons (mC (.int 0)) mNil) ρ = some (.tuple [.int 0]) from rfl)]
      exact if_pos (Nat.le_trans (show (rowOf st).length + 1 ≤ 7 from Nat.succ_le_succ F.len.1) (by decide))
    · unfold mSl
      rw [ix]
      rfl
  unfold LS12
  rw [asg_set (list_of e)]
  rfl
/-! ### rows that are wrong at one place -/
theorem wrong_in {A B : List D} {x y : D} {b : Bool} {m : Nat} (hA : ∀ d ∈ A, Fc m d) (hB : ∀ d ∈ B, Fc m d) (hm : A.length + 1 + B.length = m) (h13 : m ≤ 13) (hx : m_is_record [x] = some (.bool true)) (hy : m__read_step [x] = some y) (hb : m__is_step [y, .int (m : Nat)] = some (.bool b)) :
    m_code_in [TT A B x] = some (if b = true then .tuple (A ++ y :: B) else .none) ∧ m_is_code [.tuple (A ++ y :: B)] = some (.bool b) := by
  have len : (A ++ y :: B).length = m := by rw [List.length_append, List.length_cons]; omega
  have mp : ((A.map fun st => PyData.tuple (rowOf st)) ++ x :: B.map fun st => PyData.tuple (rowOf st)).map (fun r => (m__read_step [r]).getD .none) = A ++ y :: B := by
    rw [List.map_append, List.map_cons, rows_map hA, rows_map hB, hy]
    rfl
  have code : m_is_code [.tuple (A ++ y :: B)] = some (.bool b) := by
    have q := is_code_eq (ds := A ++ y :: B) (f := fun d => tr (m__is_step [d, .int (m : Nat)])) (by rw [len]; exact Nat.le_trans h13 (by decide)) fun d hd => by
      rw [len]
      rcases List.mem_append.mp hd with h | h
      · rw [(hA d h).step]; rfl
      · rcases List.mem_cons.mp h with rfl | h
        · rw [hb]; rfl
        · rw [(hB d h).step]; rfl
    have a1 : A.all (fun d => tr (m__is_step [d, .int (m : Nat)])) = true := List.all_eq_true.mpr fun d h => by
      rw [(hA d h).step]; rfl
    have a2 : B.all (fun d => tr (m__is_step [d, .int (m : Nat)])) = true := List.all_eq_true.mpr fun d h => by
      rw [(hB d h).step]; rfl
    have a3 : (A ++ y :: B).all (fun d => tr (m__is_step [d, .int (m : Nat)])) = b := by
      rw [List.all_append, List.all_cons, a1, a2, hb]
      cases b <;> rfl
    rw [q, a3, len, decide_eq_true (by omega), decide_eq_true (by omega)]
    rfl
  refine ⟨?_, code⟩
  have := code_in_eq (rows := (A.map fun st => PyData.tuple (rowOf st)) ++ x :: B.map fun st => PyData.tuple (rowOf st)) (rd := fun r => (m__read_step [r]).getD .none) (b := b) (by
      rw [List.length_append, List.length_cons, List.length_map, List.length_map]; exact Nat.le_trans (show A.length + (B.length + 1) ≤ 13 by omega) (by decide)) (fun r hr => by
      rcases List.mem_append.mp hr with h | h
      · obtain ⟨st, hst, rfl⟩ := List.mem_map.mp h
        exact (hA st hst).isr
      · rcases List.mem_cons.mp h with rfl | h
        · exact hx
        · obtain ⟨st, hst, rfl⟩ := List.mem_map.mp h
          exact (hB st hst).isr) (fun r hr => by
      rcases List.mem_append.mp hr with h | h
      · obtain ⟨st, hst, rfl⟩ := List.mem_map.mp h
        rw [(hA st hst).rd]
        rfl
      · rcases List.mem_cons.mp h with rfl | h
        · rw [hy]; rfl
        · obtain ⟨st, hst, rfl⟩ := List.mem_map.mp h
          rw [(hB st hst).rd]
          rfl) (by rw [mp]; exact code)
  rw [mp] at this
  exact this
/-- what is asked of a wrong row and the code that is read of it -/
def OkP (C T o : D) : Prop := o = .none ∨ (∃ es, o = .tuple es) ∧ m_code_records [o] = some T ∧ SeqAt.shaped T = true ∧ PyData.canLay0 T = true ∧ SeqAt.shaped o = true ∧ SeqAt.shaped C = true ∧ PyData.eqv o C = false
def LB13 : En → Option Fl := (sFrz 5 (sIf (mAnd (mTest (mOp dIsNot (mVar 12) (mC .none))) (mOr (mTest (mOp dNe (mCall (lim 1 m_code_records) (mCons (mVar 12) mNil)) (mVar 5))) (mTest (mOp dEq (mVar 12) (mVar 1)))))
  (sRet (mC (.bool false)))
  sNext))
theorem body13 {a c s3 s4 s6 s7 s8 s9 s10 s11 s13 : Option Sl} {C T o : D} (h : OkP C T o) : LB13 (EV a (vl C) c s3 s4 (vl T) s6 s7 s8 s9 s10 s11 (vl o) s13) = some (.nx (EV a (vl C) c s3 s4 (vl T) s6 s7 s8 s9 s10 s11 (vl o) s13)) := by
  unfold LB13
  show sIf _ _ _ (EV a (vl C) c s3 s4 (vl T) s6 s7 s8 s9 s10 s11 (vl o) s13) = _
  generalize hρ : EV a (vl C) c s3 s4 (vl T) s6 s7 s8 s9 s10 s11 (vl o) s13 = ρ
  have v1 : mVar 1 ρ = some C := by rw [← hρ]; rfl
  have v5 : mVar 5 ρ = some T := by rw [← hρ]; rfl
  have v12 : mVar 12 ρ = some o := by rw [← hρ]; rfl
  rcases h with rfl | ⟨⟨es, rfl⟩, h1, h2, h3, h4, h5, h6⟩
  · have t : mTest (mOp dIsNot (mVar 12) (mC .none)) ρ = some false := by
      refine test_of ?_
      rw [op_of v12 (show mC .none ρ = some .none from rfl)]
      rfl
    rw [if_f (and_f t)]
    rfl
  · have t : mTest (mOp dIsNot (mVar 12) (mC .none)) ρ = some true := by
      refine test_of ?_
      rw [op_of v12 (show mC .none ρ = some .none from rfl)]
      rfl
    have t1 : mTest (mOp dNe (mCall (lim 1 m_code_records) (mCons (mVar 12) mNil)) (mVar 5)) ρ = some false := by
      have e : mCall (lim 1 m_code_records) (mCons (mVar 12) mNil) ρ = some T := by rw [arg1 v12, h1]
      refine test_of ?_
      rw [op_of e v5, dNe_of h2 h2, SeqAt.eqv_refl _ h3]
      rfl
    have t2 : mTest (mOp dEq (mVar 12) (mVar 1)) ρ = some false := by
      refine test_of ?_
      rw [op_of v12 v1, dEq_of h4 h5, h6]
    rw [if_f (by rw [and_t t, or_f t1, t2])]
    rfl
theorem ls13 {a c s3 s4 s5 s6 s7 s8 s9 s10 : Option Sl} {C T0 T1 T2 o0 o1 o2 : D} (n : nOwn s5) (e0 : m_code_in [T0] = some o0) (e1 : m_code_in [T1] = some o1) (e2 : m_code_in [T2] = some o2) (h0 : OkP C T0 o0) (h1 : OkP C T1 o1) (h2 : OkP C T2 o2) :
    LS13 (EV a (vl C) c s3 s4 s5 s6 s7 s8 s9 s10 (vl (.list [T0, T1, T2])) none none) = some (.nx (EV a (vl C) c s3 s4 (vl T2) s6 s7 s8 s9 s10 (vl (.list [T0, T1, T2])) (vl o2) none)) := by
  have fr : frz 5 (EV a (vl C) c s3 s4 s5 s6 s7 s8 s9 s10 (vl (.list [T0, T1, T2])) none none) = EV a (vl C) c s3 s4 s5 s6 s7 s8 s9 s10 (vl (.list [T0, T1, T2])) none none := by
    cases s5 with
    | none => rfl
    | some x => cases x with
      | val _ => rfl
      | own _ => exact n.elim
  have lc : mLc (mIter (mVar 11)) (gSet 5) mYes (mCall (lim 1 m_code_in) (mCons (mVar 5) mNil)) [5] (EV a (vl C) c s3 s4 s5 s6 s7 s8 s9 s10 (vl (.list [T0, T1, T2])) none none) = some [o0, o1, o2] := by
    have := lc_of (it := mIter (mVar 11)) (g := gSet 5) (e := mCall (lim 1 m_code_in) (mCons (mVar 5) mNil)) (ρ := EV a (vl C) c s3 s4 s5 s6 s7 s8 s9 s10 (vl (.list [T0, T1, T2])) none none) (vs := [5]) (ds := [T0, T1, T2]) (f := fun T => (m_code_in [T]).getD .none) rfl (by show 3 ≤ cap; decide) fun d hd => by
      refine ⟨EV a (vl C) c s3 s4 (vl d) s6 s7 s8 s9 s10 (vl (.list [T0, T1, T2])) none none, rfl, ?_⟩
      rw [arg1 (show mVar 5 _ = some d from rfl)]
      simp only [List.mem_cons, List.not_mem_nil, or_false] at hd
      rcases hd with rfl | rfl | rfl
      · rw [e0]; rfl
      · rw [e1]; rfl
      · rw [e2]; rfl
    rw [this]
    show some [(m_code_in [T0]).getD .none, (m_code_in [T1]).getD .none, (m_code_in [T2]).getD .none] = _
    rw [e0, e1, e2]
    rfl
  have zp : mZip (mCons (mVar 11) (mCons (mList (mLc (mIter (mVar 11)) (gSet 5) mYes (mCall (lim 1 m_code_in) (mCons (mVar 5) mNil)) [5])) mNil)) (EV a (vl C) c s3 s4 s5 s6 s7 s8 s9 s10 (vl (.list [T0, T1, T2])) none none) = some [.tuple [T0, o0], .tuple [T1, o1], .tuple [T2, o2]] := by
    unfold mZip
    rw [cons_of (show mVar 11 _ = some (.list [T0, T1, T2]) from rfl) (cons_of (list_of lc) nil_of)]
    rfl
  have stp : ∀ (s5 s12 : Option Sl) (T o : D) (rest : List D), OkP C T o → loop (gTupM 2 (gConsM (gSet 5) (gConsM (gSet 12) gNilM))) LB13 (.tuple [T, o] :: rest) (EV a (vl C) c s3 s4 s5 s6 s7 s8 s9 s10 (vl (.list [T0, T1, T2])) s12 none) =
      loop (gTupM 2 (gConsM (gSet 5) (gConsM (gSet 12) gNilM))) LB13 rest (EV a (vl C) c s3 s4 (vl T) s6 s7 s8 s9 s10 (vl (.list [T0, T1, T2])) (vl o) none) := fun s5 s12 T o rest h => by
    have u : loop (gTupM 2 (gConsM (gSet 5) (gConsM (gSet 12) gNilM))) LB13 (.tuple [T, o] :: rest) (EV a (vl C) c s3 s4 s5 s6 s7 s8 s9 s10 (vl (.list [T0, T1, T2])) s12 none) =
      (LB13 (EV a (vl C) c s3 s4 (vl T) s6 s7 s8 s9 s10 (vl (.list [T0, T1, T2])) (vl o) none)).bind fun f => match f with
        | .nx ρ2 => loop (gTupM 2 (gConsM (gSet 5) (gConsM (gSet 12) gNilM))) LB13 rest ρ2
        | .ct ρ2 => loop (gTupM 2 (gConsM (gSet 5) (gConsM (gSet 12) gNilM))) LB13 rest ρ2
        | .bk ρ2 => some (.nx ρ2)
        | .rt d => some (.rt d) := rfl
    rw [u, body13 h]
    rfl
  have run : LS13 (EV a (vl C) c s3 s4 s5 s6 s7 s8 s9 s10 (vl (.list [T0, T1, T2])) none none) = sFor (mZip (mCons (mVar 11) (mCons (mList (mLc (mIter (mVar 11)) (gSet 5) mYes (mCall (lim 1 m_code_in) (mCons (mVar 5) mNil)) [5])) mNil))) (gTupM 2 (gConsM (gSet 5) (gConsM (gSet 12) gNilM))) LB13 (frz 5 (EV a (vl C) c s3 s4 s5 s6 s7 s8 s9 s10 (vl (.list [T0, T1, T2])) none none)) := rfl
  rw [run, fr]
  unfold sFor
  rw [zp]
  show loop _ _ _ _ = _
  rw [stp s5 none T0 o0 _ h0, stp (vl T0) (vl o0) T1 o1 _ h1, stp (vl T1) (vl o1) T2 o2 _ h2]
  rfl
theorem none_in : m_code_in [.tuple []] = some .none := by kernel_rfl
theorem ls14 {a b c s3 s4 s5 s6 s8 s9 s11 s12 s13 : Option Sl} {A B : List D} {st : D} (hz : A.length + B.length ≤ 20) (h : m_code_in [TT A B X1] = some .none) :
    LS14 (EV a b c s3 s4 s5 s6 (vl (TT A B (.tuple (rowOf st)))) s8 s9 (vl (.int (A.length : Int))) s11 s12 s13) = some (.rt (.bool true)) := by
  generalize hρ : EV a b c s3 s4 s5 s6 (vl (TT A B (.tuple (rowOf st)))) s8 s9 (vl (.int (A.length : Int))) s11 s12 s13 = ρ
  have v7 : mVar 7 ρ = some (TT A B (.tuple (rowOf st))) := by rw [← hρ]; rfl
  have v10 : mVar 10 ρ = some (.int (A.length : Int)) := by rw [← hρ]; rfl
  have e := TT_add (x := X1) (e := mTup (mCons (mC (.int 18)) mNil)) (k := 0) hz v7 v10 (show mTup (mCons (mC (.int 18)) mNil) ρ = some X1 from rfl)
  have q1 : mOp dIs (mCall (lim 1 m_code_in) (mCons (mOp dAdd (mOp dAdd (mSl (mVar 7) mNoPart (mPart (mVar 10))) (mTup (mCons (mTup (mCons (mC (.int 18)) mNil)) mNil))) (mSl (mVar 7) (mPart (mOp dAdd (mVar 10) (mC (.int 1)))) mNoPart)) mNil)) (mC .none) ρ = some (.bool true) := by
    rw [op_of (x := .none) (by rw [arg1 e, h]) (show mC .none ρ = some .none from rfl)]
    rfl
  have q2 : mOp dIs (mCall (lim 1 m_code_in) (mCons (mTup mNil) mNil)) (mC .none) ρ = some (.bool true) := by
    rw [op_of (x := .none) (by rw [arg1 (show mTup mNil ρ = some (.tuple []) from rfl), none_in]) (show mC .none ρ = some .none from rfl)]
    rfl
  unfold LS14
  refine ret_of ?_
  rw [andV_t q1, q2]
theorem lays0 {ds : List D} (h : lays (.tuple ds) = true) : lays (.tuple (ds ++ [.int 0])) = true := by
  have c : ∀ l : List D, PyData.canLayAll0 (l ++ [.int 0]) = PyData.canLayAll0 l := by
    intro l
    induction l with
    | nil => simp [PyData.canLayAll0, PyData.canLay0]
    | cons x r ih => simp [PyData.canLayAll0, ih]
  have d : ∀ l : List D, PyData.depthAll (l ++ [.int 0]) = PyData.depthAll l := by
    intro l
    induction l with
    | nil => simp [PyData.depthAll, PyData.depth]
    | cons x r ih => simp [PyData.depthAll, ih]
  unfold lays at h ⊢
  simpa [PyData.canLay0, PyData.depth, c, d] using h
theorem mark_step (x : D) : m__is_step [.tuple [.str "mark"], x] = some (.bool true) := by kernel_rfl
theorem read18 : m_is_record [X1] = some (.bool true) ∧ m__read_step [X1] = some .none := ⟨by kernel_rfl, by kernel_rfl⟩
theorem step_none (x : D) : m__is_step [.none, x] = some (.bool false) := by kernel_rfl
theorem law_true (ns : List Int) (h63 : ns.length ≤ 63) : m_law [.list (ns.map .int)] = some (.bool true) := by
  obtain ⟨m, ds, hcode, hlen, h2, h13, hin⟩ := code_ok ns h63
  have hf : ∀ st ∈ ds, Fc m st := fun st hst => fc_of h13 (hin st hst)
  have hz : ds.length ≤ 13 := by omega
  obtain ⟨k, pk, k0, k1⟩ := pick_ok ns h63 200 m (by decide) (by decide) (by omega) (by omega)
  rw [← k_pick] at pk
  generalize PyData.list (ns.map .int) = L at *
  -- the code is one, with a mark too
  have c1 : m_is_code [.tuple ds] = some (.bool true) := by
    rw [is_code_eq (f := fun _ => true) (Nat.le_trans hz (by decide)) fun st hst => by rw [hlen]; exact (hf st hst).step]
    have : (ds.all fun _ => true) = true := by simp
    rw [this, decide_eq_true (by omega), decide_eq_true (by omega)]
    rfl
  have c2 : m_is_code [.tuple (ds ++ [.tuple [.str "mark"]])] = some (.bool true) := by
    have l : (ds ++ [PyData.tuple [.str "mark"]]).length = m + 1 := by rw [List.length_append, hlen]; rfl
    rw [is_code_eq (f := fun _ => true) (by rw [l]; exact Nat.le_trans (show m + 1 ≤ 14 by omega) (by decide)) fun st hst => by
      rw [l]
      rcases List.mem_append.mp hst with h | h
      · exact (hf st h).step1
      · rw [List.mem_singleton.mp h]; exact mark_step _]
    have : ((ds ++ [PyData.tuple [.str "mark"]]).all fun _ => true) = true := by simp
    rw [this, l, decide_eq_true (by omega), decide_eq_true (by omega)]
    rfl
  -- the place
  obtain ⟨kn, hk⟩ : ∃ kn : Nat, k = (kn : Int) := ⟨k.toNat, by omega⟩
  have kl : kn < ds.length := by omega
  obtain ⟨A, st, B, eds, hA⟩ : ∃ A st B, ds = A ++ st :: B ∧ A.length = kn := ⟨ds.take kn, ds[kn], ds.drop (kn + 1), by rw [List.getElem_cons_drop, List.take_append_drop], by rw [List.length_take]; omega⟩
  have kA : k = (A.length : Int) := by rw [hA, hk]
  have hl : A.length + 1 + B.length = m := by rw [← hlen, eds, List.length_append, List.length_cons]; omega
  have fA : ∀ d ∈ A, Fc m d := fun d h => hf d (by rw [eds]; exact List.mem_append_left _ h)
  have fB : ∀ d ∈ B, Fc m d := fun d h => hf d (by rw [eds]; exact List.mem_append_right _ (List.mem_cons_of_mem _ h))
  have F : Fc m st := hf st (by rw [eds]; exact List.mem_append_right _ List.mem_cons_self)
  have z20 : A.length + B.length ≤ 20 := by omega
  have told : PyData.tuple (ds.map fun st => .tuple (rowOf st)) = TT A B (.tuple (rowOf st)) := by rw [eds]; exact told_TT A B st
  -- the three wrong rows
  obtain ⟨w0, g0⟩ := wrong_in fA fB hl h13 F.rec0 F.rd0 (F.st0 _)
  obtain ⟨w1, _⟩ := wrong_in fA fB hl h13 read18.1 read18.2 (step_none _)
  obtain ⟨w2, _⟩ := wrong_in fA fB hl h13 F.rec1 F.rd1 (F.st1 _)
  have w0' : m_code_in [TT A B (X0 st)] = some (if ok0 st = true then .tuple (A ++ bad0 st :: B) else .none) := w0
  have w1' : m_code_in [TT A B X1] = some .none := w1
  have w2' : m_code_in [TT A B (X2 st)] = some .none := w2
  have layA : ∀ d ∈ A, lays d = true := fun d h => (fA d h).lay.1
  have layB : ∀ d ∈ B, lays d = true := fun d h => (fB d h).lay.1
  have shC : SeqAt.shaped (.tuple ds) = true := (shaped_tup fun d h => (hf d h).lay.1).1
  have p0 : OkP (.tuple ds) (TT A B (X0 st)) (if ok0 st = true then .tuple (A ++ bad0 st :: B) else .none) := by
    cases ho : ok0 st with
    | false => exact .inl rfl
    | true =>
      refine .inr ⟨⟨_, rfl⟩, ?_, ?_, ?_, ?_, shC, ?_⟩
      · rw [ho] at g0
        show m_code_records [.tuple (A ++ bad0 st :: B)] = _
        rw [code_records_eq (w := fun d => (m__written_step [d]).getD .none) (by rw [List.length_append, List.length_cons]; exact Nat.le_trans (show A.length + (B.length + 1) ≤ 13 by omega) (by decide)) g0 fun d hd => by
          rcases List.mem_append.mp hd with h | h
          · rw [(fA d h).wr]; rfl
          · rcases List.mem_cons.mp h with rfl | h
            · rw [F.wr0 ho]; rfl
            · rw [(fB d h).wr]; rfl]
        unfold TT X0
        rw [List.map_append, List.map_cons, F.wr0 ho]
        have mA : ∀ {l : List D}, (∀ d ∈ l, Fc m d) → l.map (fun d => (m__written_step [d]).getD .none) = l.map fun st => PyData.tuple (rowOf st) := fun {l} h => List.map_congr_left fun d hd => by
          show (m__written_step [d]).getD .none = _
          rw [(h d hd).wr]
          rfl
        rw [mA fA, mA fB]
        rfl
      · refine (shaped_tup fun d hd => ?_).1
        rcases List.mem_append.mp hd with h | h
        · obtain ⟨s, hs, rfl⟩ := List.mem_map.mp h
          exact (fA s hs).lay.2.1
        · rcases List.mem_cons.mp h with rfl | h
          · exact lays0 F.lay.2.1
          · obtain ⟨s, hs, rfl⟩ := List.mem_map.mp h
            exact (fB s hs).lay.2.1
      · refine (shaped_tup fun d hd => ?_).2
        rcases List.mem_append.mp hd with h | h
        · obtain ⟨s, hs, rfl⟩ := List.mem_map.mp h
          exact (fA s hs).lay.2.1
        · rcases List.mem_cons.mp h with rfl | h
          · exact lays0 F.lay.2.1
          · obtain ⟨s, hs, rfl⟩ := List.mem_map.mp h
            exact (fB s hs).lay.2.1
      · refine (shaped_tup fun d hd => ?_).1
        rcases List.mem_append.mp hd with h | h
        · exact layA d h
        · rcases List.mem_cons.mp h with rfl | h
          · exact F.lay.2.2.1
          · exact layB d h
      · rw [eds]
        have : PyData.eqv (.tuple (A ++ bad0 st :: B)) (.tuple (A ++ st :: B)) = PyData.eqvAll (A ++ bad0 st :: B) (A ++ st :: B) := by simp [PyData.eqv]
        show PyData.eqv (.tuple (A ++ bad0 st :: B)) (.tuple (A ++ st :: B)) = false
        rw [this]
        exact eqv_mid (F.ne0 ho) rfl
  refine mDef_rt ?_
  rw [law_parts, seq_nx (ls0 hcode), seq_nx (ls1 _ _), seq_nx (ls2 hz c1 c2), seq_nx (ls3 _ _ _)]
  obtain ⟨s4, s5, s6, e4, n5⟩ := ls4 (L := L) hf hz
  rw [seq_nx e4, seq_nx (ls5 hf hz c1), seq_nx (ls6 hf hz c1), seq_nx (ls7 hf hz)]
  have fl : ((ds.filter isTO).map fun st => PyData.int (DD.c1 st)).length ≤ 13 := by
    rw [List.length_map]
    exact Nat.le_trans (List.length_filter_le _ _) hz
  rw [seq_nx (ls8 hf hz _ fl), seq_nx (ls9 hf hz)]
  have tk : ((ds.filter isTO).map fun st => PyData.int (DD.c1 st)) ++ ((ds.filter isF).map fun st => PyData.int (DD.c2 st)) = (takes ds).map .int := by
    unfold takes
    rw [List.map_append, List.map_map, List.map_map]
    rfl
  rw [tk, seq_nx (ls10 hf hz c1)]
  have rl : (ds.map fun st => PyData.tuple (rowOf st)).length = m := by rw [List.length_map, hlen]
  rw [seq_nx (ls11 (L := none) (k := k) (by rw [rl]; exact h13) (by rw [rl]; exact pk)), told, kA, seq_nx (ls12 F z20), seq_nx (ls13 n5 w0' w1' w2' p0 (.inl rfl) (.inl rfl))]
  exact ls14 z20 w1'
end DD

set_option Elab.async false
set_option linter.all false
set_option maxRecDepth 100000
set_option maxHeartbeats 4000000
namespace DD
open PySem PySem.Spec PyProof.Rows L2
theorem sp_law {K : PySem.W.Frag} {H : Hp} {a : Addr} {ns : List Int} {E : XK} (hl : ns.length ≤ 63) (hS : SqL K H a (ns.map V.int)) : spM K 1 m_law [.ref a] H (fun v _ => v = .bl true) E := by
  have e : H = ov H (fun _ => none) := by
    funext b
    rfl
  exact ⟨[.list (ns.map .int)], .bool true, H, fun _ => none, .cons (.lst hS (dpa_ints ns)) .nil, rfl, law_true ns hl, e, (fun _ _ h => nomatch h), fun v H' _ _ g => dp_bool g⟩
theorem all_mk {w : World} {K : PySem.W.Frag} {h : Heap} {mg : Str → Option Value} {fa : Addr} (X : K.In h) (G : h.Ns mainGlobals mg) (hfa : mg "law" = some (.ref fa))
    {f1 : Addr} {od1 an1 : Option Addr} {sl1 : Array (Option Value)} {oc1 kV1 dc1 pm1 cd1 ct1 : Value}
    (a1 : PySem.W.nsIn K mainGlobals "is_whole" = some (some (.ref f1))) (l1 : K.lookup f1 = some ⟨oc1, od1, .func (PySem.W.fnOf "is_whole" "is_whole" (defArgs s_is_whole) (defBody s_is_whole) (defScope s_is_whole) .none kV1 dc1 pm1 an1 cd1 ct1), sl1⟩) (c1 : PySem.W.codeIn K cd1 "is_whole" = true) (k1 : PySem.W.keepIn K (.ref f1) = true)
    {f2 : Addr} {od2 an2 : Option Addr} {sl2 : Array (Option Value)} {oc2 kV2 dc2 pm2 cd2 ct2 : Value}
    (a2 : PySem.W.nsIn K mainGlobals "is_word" = some (some (.ref f2))) (l2 : K.lookup f2 = some ⟨oc2, od2, .func (PySem.W.fnOf "is_word" "is_word" (defArgs s_is_word) (defBody s_is_word) (defScope s_is_word) .none kV2 dc2 pm2 an2 cd2 ct2), sl2⟩) (c2 : PySem.W.codeIn K cd2 "is_word" = true) (k2 : PySem.W.keepIn K (.ref f2) = true)
    {f3 : Addr} {od3 an3 : Option Addr} {sl3 : Array (Option Value)} {oc3 kV3 dc3 pm3 cd3 ct3 : Value}
    (a3 : PySem.W.nsIn K mainGlobals "is_record" = some (some (.ref f3))) (l3 : K.lookup f3 = some ⟨oc3, od3, .func (PySem.W.fnOf "is_record" "is_record" (defArgs s_is_record) (defBody s_is_record) (defScope s_is_record) .none kV3 dc3 pm3 an3 cd3 ct3), sl3⟩) (c3 : PySem.W.codeIn K cd3 "is_record" = true) (k3 : PySem.W.keepIn K (.ref f3) = true)
    {f4 : Addr} {od4 an4 : Option Addr} {sl4 : Array (Option Value)} {oc4 kV4 dc4 pm4 cd4 ct4 : Value}
    (a4 : PySem.W.nsIn K mainGlobals "are_records" = some (some (.ref f4))) (l4 : K.lookup f4 = some ⟨oc4, od4, .func (PySem.W.fnOf "are_records" "are_records" (defArgs s_are_records) (defBody s_are_records) (defScope s_are_records) .none kV4 dc4 pm4 an4 cd4 ct4), sl4⟩) (c4 : PySem.W.codeIn K cd4 "are_records" = true) (k4 : PySem.W.keepIn K (.ref f4) = true)
    {f5 : Addr} {od5 an5 : Option Addr} {sl5 : Array (Option Value)} {oc5 kV5 dc5 pm5 cd5 ct5 : Value}
    (a5 : PySem.W.nsIn K mainGlobals "is_code" = some (some (.ref f5))) (l5 : K.lookup f5 = some ⟨oc5, od5, .func (PySem.W.fnOf "is_code" "is_code" (defArgs s_is_code) (defBody s_is_code) (defScope s_is_code) .none kV5 dc5 pm5 an5 cd5 ct5), sl5⟩) (c5 : PySem.W.codeIn K cd5 "is_code" = true) (k5 : PySem.W.keepIn K (.ref f5) = true)
    {f6 : Addr} {od6 an6 : Option Addr} {sl6 : Array (Option Value)} {oc6 kV6 dc6 pm6 cd6 ct6 : Value}
    (a6 : PySem.W.nsIn K mainGlobals "demand_code" = some (some (.ref f6))) (l6 : K.lookup f6 = some ⟨oc6, od6, .func (PySem.W.fnOf "demand_code" "demand_code" (defArgs s_demand_code) (defBody s_demand_code) (defScope s_demand_code) .none kV6 dc6 pm6 an6 cd6 ct6), sl6⟩) (c6 : PySem.W.codeIn K cd6 "demand_code" = true) (k6 : PySem.W.keepIn K (.ref f6) = true)
    {f7 : Addr} {od7 an7 : Option Addr} {sl7 : Array (Option Value)} {oc7 kV7 dc7 pm7 cd7 ct7 : Value}
    (a7 : PySem.W.nsIn K mainGlobals "slots_of" = some (some (.ref f7))) (l7 : K.lookup f7 = some ⟨oc7, od7, .func (PySem.W.fnOf "slots_of" "slots_of" (defArgs s_slots_of) (defBody s_slots_of) (defScope s_slots_of) .none kV7 dc7 pm7 an7 cd7 ct7), sl7⟩) (c7 : PySem.W.codeIn K cd7 "slots_of" = true) (k7 : PySem.W.keepIn K (.ref f7) = true)
    {f8 : Addr} {od8 an8 : Option Addr} {sl8 : Array (Option Value)} {oc8 kV8 dc8 pm8 cd8 ct8 : Value}
    (a8 : PySem.W.nsIn K mainGlobals "code_records" = some (some (.ref f8))) (l8 : K.lookup f8 = some ⟨oc8, od8, .func (PySem.W.fnOf "code_records" "code_records" (defArgs s_code_records) (defBody s_code_records) (defScope s_code_records) .none kV8 dc8 pm8 an8 cd8 ct8), sl8⟩) (c8 : PySem.W.codeIn K cd8 "code_records" = true) (k8 : PySem.W.keepIn K (.ref f8) = true)
    {f9 : Addr} {od9 an9 : Option Addr} {sl9 : Array (Option Value)} {oc9 kV9 dc9 pm9 cd9 ct9 : Value}
    (a9 : PySem.W.nsIn K mainGlobals "code_in" = some (some (.ref f9))) (l9 : K.lookup f9 = some ⟨oc9, od9, .func (PySem.W.fnOf "code_in" "code_in" (defArgs s_code_in) (defBody s_code_in) (defScope s_code_in) .none kV9 dc9 pm9 an9 cd9 ct9), sl9⟩) (c9 : PySem.W.codeIn K cd9 "code_in" = true) (k9 : PySem.W.keepIn K (.ref f9) = true)
    {f10 : Addr} {od10 an10 : Option Addr} {sl10 : Array (Option Value)} {oc10 kV10 dc10 pm10 cd10 ct10 : Value}
    (a10 : PySem.W.nsIn K mainGlobals "_is_step" = some (some (.ref f10))) (l10 : K.lookup f10 = some ⟨oc10, od10, .func (PySem.W.fnOf "_is_step" "_is_step" (defArgs s__is_step) (defBody s__is_step) (defScope s__is_step) .none kV10 dc10 pm10 an10 cd10 ct10), sl10⟩) (c10 : PySem.W.codeIn K cd10 "_is_step" = true) (k10 : PySem.W.keepIn K (.ref f10) = true)
    {f11 : Addr} {od11 an11 : Option Addr} {sl11 : Array (Option Value)} {oc11 kV11 dc11 pm11 cd11 ct11 : Value}
    (a11 : PySem.W.nsIn K mainGlobals "_is_part" = some (some (.ref f11))) (l11 : K.lookup f11 = some ⟨oc11, od11, .func (PySem.W.fnOf "_is_part" "_is_part" (defArgs s__is_part) (defBody s__is_part) (defScope s__is_part) .none kV11 dc11 pm11 an11 cd11 ct11), sl11⟩) (c11 : PySem.W.codeIn K cd11 "_is_part" = true) (k11 : PySem.W.keepIn K (.ref f11) = true)
    {f12 : Addr} {od12 an12 : Option Addr} {sl12 : Array (Option Value)} {oc12 kV12 dc12 pm12 cd12 ct12 : Value}
    (a12 : PySem.W.nsIn K mainGlobals "_is_row" = some (some (.ref f12))) (l12 : K.lookup f12 = some ⟨oc12, od12, .func (PySem.W.fnOf "_is_row" "_is_row" (defArgs s__is_row) (defBody s__is_row) (defScope s__is_row) .none kV12 dc12 pm12 an12 cd12 ct12), sl12⟩) (c12 : PySem.W.codeIn K cd12 "_is_row" = true) (k12 : PySem.W.keepIn K (.ref f12) = true)
    {f13 : Addr} {od13 an13 : Option Addr} {sl13 : Array (Option Value)} {oc13 kV13 dc13 pm13 cd13 ct13 : Value}
    (a13 : PySem.W.nsIn K mainGlobals "_cards_of" = some (some (.ref f13))) (l13 : K.lookup f13 = some ⟨oc13, od13, .func (PySem.W.fnOf "_cards_of" "_cards_of" (defArgs s__cards_of) (defBody s__cards_of) (defScope s__cards_of) .none kV13 dc13 pm13 an13 cd13 ct13), sl13⟩) (c13 : PySem.W.codeIn K cd13 "_cards_of" = true) (k13 : PySem.W.keepIn K (.ref f13) = true)
    {f14 : Addr} {od14 an14 : Option Addr} {sl14 : Array (Option Value)} {oc14 kV14 dc14 pm14 cd14 ct14 : Value}
    (a14 : PySem.W.nsIn K mainGlobals "_written_step" = some (some (.ref f14))) (l14 : K.lookup f14 = some ⟨oc14, od14, .func (PySem.W.fnOf "_written_step" "_written_step" (defArgs s__written_step) (defBody s__written_step) (defScope s__written_step) .none kV14 dc14 pm14 an14 cd14 ct14), sl14⟩) (c14 : PySem.W.codeIn K cd14 "_written_step" = true) (k14 : PySem.W.keepIn K (.ref f14) = true)
    {f15 : Addr} {od15 an15 : Option Addr} {sl15 : Array (Option Value)} {oc15 kV15 dc15 pm15 cd15 ct15 : Value}
    (a15 : PySem.W.nsIn K mainGlobals "_read_step" = some (some (.ref f15))) (l15 : K.lookup f15 = some ⟨oc15, od15, .func (PySem.W.fnOf "_read_step" "_read_step" (defArgs s__read_step) (defBody s__read_step) (defScope s__read_step) .none kV15 dc15 pm15 an15 cd15 ct15), sl15⟩) (c15 : PySem.W.codeIn K cd15 "_read_step" = true) (k15 : PySem.W.keepIn K (.ref f15) = true)
    {f16 : Addr} {od16 an16 : Option Addr} {sl16 : Array (Option Value)} {oc16 kV16 dc16 pm16 cd16 ct16 : Value}
    (a16 : PySem.W.nsIn K mainGlobals "_law_pick" = some (some (.ref f16))) (l16 : K.lookup f16 = some ⟨oc16, od16, .func (PySem.W.fnOf "_law_pick" "_law_pick" (defArgs s__law_pick) (defBody s__law_pick) (defScope s__law_pick) .none kV16 dc16 pm16 an16 cd16 ct16), sl16⟩) (c16 : PySem.W.codeIn K cd16 "_law_pick" = true) (k16 : PySem.W.keepIn K (.ref f16) = true)
    {f17 : Addr} {od17 an17 : Option Addr} {sl17 : Array (Option Value)} {oc17 kV17 dc17 pm17 cd17 ct17 : Value}
    (a17 : PySem.W.nsIn K mainGlobals "_law_step_code" = some (some (.ref f17))) (l17 : K.lookup f17 = some ⟨oc17, od17, .func (PySem.W.fnOf "_law_step_code" "_law_step_code" (defArgs s__law_step_code) (defBody s__law_step_code) (defScope s__law_step_code) .none kV17 dc17 pm17 an17 cd17 ct17), sl17⟩) (c17 : PySem.W.codeIn K cd17 "_law_step_code" = true) (k17 : PySem.W.keepIn K (.ref f17) = true)
    {f18 : Addr} {od18 an18 : Option Addr} {sl18 : Array (Option Value)} {oc18 kV18 dc18 pm18 cd18 ct18 : Value}
    (a18 : PySem.W.nsIn K mainGlobals "_law_code" = some (some (.ref f18))) (l18 : K.lookup f18 = some ⟨oc18, od18, .func (PySem.W.fnOf "_law_code" "_law_code" (defArgs s__law_code) (defBody s__law_code) (defScope s__law_code) .none kV18 dc18 pm18 an18 cd18 ct18), sl18⟩) (c18 : PySem.W.codeIn K cd18 "_law_code" = true) (k18 : PySem.W.keepIn K (.ref f18) = true)
    {f19 : Addr} {od19 an19 : Option Addr} {sl19 : Array (Option Value)} {oc19 kV19 dc19 pm19 cd19 ct19 : Value}
    (a19 : PySem.W.nsIn K mainGlobals "law" = some (some (.ref f19))) (l19 : K.lookup f19 = some ⟨oc19, od19, .func (PySem.W.fnOf "law" "law" (defArgs s_law) (defBody s_law) (defScope s_law) .none kV19 dc19 pm19 an19 cd19 ct19), sl19⟩) (c19 : PySem.W.codeIn K cd19 "law" = true) (k19 : PySem.W.keepIn K (.ref f19) = true)
    {t20 : Tok} (c_GREATEST_WORD : PySem.W.nsIn K mainGlobals "GREATEST_WORD" = some (some (.int 9999 t20)))
    {t21 : Tok} (c_MOST_WORDS : PySem.W.nsIn K mainGlobals "MOST_WORDS" = some (some (.int 8 t21)))
    {t22 : Tok} (c_MOST_RECORDS : PySem.W.nsIn K mainGlobals "MOST_RECORDS" = some (some (.int 30 t22)))
    {t23 : Tok} (c_MOST_STEPS : PySem.W.nsIn K mainGlobals "MOST_STEPS" = some (some (.int 30 t23)))
    {f24 : Addr} {e24 : Array DictEntry} {n24 : Nat} (c_PARTS : PySem.W.nsIn K mainGlobals "PARTS" = some (some (.ref f24))) (w_PARTS : K.lookup f24 = some ⟨.type "dict", none, .dict e24 n24, #[]⟩) (y_PARTS : PySem.W.KeysLit w.params e24.toList) (z_PARTS : (f24 == sysModules) = false)
    {p24_0 : Addr} {p24_1 : Addr} {p24_2 : Addr} {p24_3 : Addr} {p24_4 : Addr} {p24_5 : Addr} {p24_6 : Addr} {p24_7 : Addr} {p24_8 : Addr} {p24_9 : Addr} {p24_10 : Addr} {p24_11 : Addr} {p24_12 : Addr} {p24_13 : Addr} {p24_14 : Addr} {p24_15 : Addr} {p24_16 : Addr} {p24_17 : Addr}
    (v_PARTS : e24.toList.map (fun e => (keyS e, e.val)) = [(some ("add" : Str), Value.ref p24_0), (some ("copy" : Str), Value.ref p24_1), (some ("div" : Str), Value.ref p24_2), (some ("end" : Str), Value.ref p24_3), (some ("field" : Str), Value.ref p24_4), (some ("go" : Str), Value.ref p24_5), (some ("if" : Str), Value.ref p24_6), (some ("less" : Str), Value.ref p24_7), (some ("line" : Str), Value.ref p24_8), (some ("mark" : Str), Value.ref p24_9), (some ("mod" : Str), Value.ref p24_10), (some ("mul" : Str), Value.ref p24_11), (some ("over" : Str), Value.ref p24_12), (some ("put" : Str), Value.ref p24_13), (some ("same" : Str), Value.ref p24_14), (some ("set" : Str), Value.ref p24_15), (some ("sub" : Str), Value.ref p24_16), (some ("take" : Str), Value.ref p24_17)])
    {o24_0 : Option Addr} {i24_0 : Array Value} {m24_0 : Nat} {s24_0 : Array (Option Value)} (t24_0 : K.lookup p24_0 = some ⟨.type "tuple", o24_0, .seq i24_0 m24_0, s24_0⟩) (z24_0 : i24_0.size ≤ 1000) (u24_0 : deVs (deV K 2) i24_0.toList = some [(.str ("r" : Str)), (.str ("r" : Str)), (.str ("r" : Str))])
    {o24_1 : Option Addr} {i24_1 : Array Value} {m24_1 : Nat} {s24_1 : Array (Option Value)} (t24_1 : K.lookup p24_1 = some ⟨.type "tuple", o24_1, .seq i24_1 m24_1, s24_1⟩) (z24_1 : i24_1.size ≤ 1000) (u24_1 : deVs (deV K 2) i24_1.toList = some [(.str ("r" : Str)), (.str ("r" : Str))])
    {o24_2 : Option Addr} {i24_2 : Array Value} {m24_2 : Nat} {s24_2 : Array (Option Value)} (t24_2 : K.lookup p24_2 = some ⟨.type "tuple", o24_2, .seq i24_2 m24_2, s24_2⟩) (z24_2 : i24_2.size ≤ 1000) (u24_2 : deVs (deV K 2) i24_2.toList = some [(.str ("r" : Str)), (.str ("r" : Str)), (.str ("r" : Str))])
    {o24_3 : Option Addr} {i24_3 : Array Value} {m24_3 : Nat} {s24_3 : Array (Option Value)} (t24_3 : K.lookup p24_3 = some ⟨.type "tuple", o24_3, .seq i24_3 m24_3, s24_3⟩) (z24_3 : i24_3.size ≤ 1000) (u24_3 : deVs (deV K 2) i24_3.toList = some [(.str ("r" : Str))])
    {o24_4 : Option Addr} {i24_4 : Array Value} {m24_4 : Nat} {s24_4 : Array (Option Value)} (t24_4 : K.lookup p24_4 = some ⟨.type "tuple", o24_4, .seq i24_4 m24_4, s24_4⟩) (z24_4 : i24_4.size ≤ 1000) (u24_4 : deVs (deV K 2) i24_4.toList = some [(.str ("r" : Str)), (.str ("f" : Str)), (.str ("k" : Str))])
    {o24_5 : Option Addr} {i24_5 : Array Value} {m24_5 : Nat} {s24_5 : Array (Option Value)} (t24_5 : K.lookup p24_5 = some ⟨.type "tuple", o24_5, .seq i24_5 m24_5, s24_5⟩) (z24_5 : i24_5.size ≤ 1000) (u24_5 : deVs (deV K 2) i24_5.toList = some [(.str ("p" : Str))])
    {o24_6 : Option Addr} {i24_6 : Array Value} {m24_6 : Nat} {s24_6 : Array (Option Value)} (t24_6 : K.lookup p24_6 = some ⟨.type "tuple", o24_6, .seq i24_6 m24_6, s24_6⟩) (z24_6 : i24_6.size ≤ 1000) (u24_6 : deVs (deV K 2) i24_6.toList = some [(.str ("r" : Str)), (.str ("p" : Str))])
    {o24_7 : Option Addr} {i24_7 : Array Value} {m24_7 : Nat} {s24_7 : Array (Option Value)} (t24_7 : K.lookup p24_7 = some ⟨.type "tuple", o24_7, .seq i24_7 m24_7, s24_7⟩) (z24_7 : i24_7.size ≤ 1000) (u24_7 : deVs (deV K 2) i24_7.toList = some [(.str ("r" : Str)), (.str ("r" : Str)), (.str ("r" : Str))])
    {o24_8 : Option Addr} {i24_8 : Array Value} {m24_8 : Nat} {s24_8 : Array (Option Value)} (t24_8 : K.lookup p24_8 = some ⟨.type "tuple", o24_8, .seq i24_8 m24_8, s24_8⟩) (z24_8 : i24_8.size ≤ 1000) (u24_8 : deVs (deV K 2) i24_8.toList = some [(.str ("row" : Str))])
    {o24_9 : Option Addr} {i24_9 : Array Value} {m24_9 : Nat} {s24_9 : Array (Option Value)} (t24_9 : K.lookup p24_9 = some ⟨.type "tuple", o24_9, .seq i24_9 m24_9, s24_9⟩) (z24_9 : i24_9.size ≤ 1000) (u24_9 : deVs (deV K 2) i24_9.toList = some [])
    {o24_10 : Option Addr} {i24_10 : Array Value} {m24_10 : Nat} {s24_10 : Array (Option Value)} (t24_10 : K.lookup p24_10 = some ⟨.type "tuple", o24_10, .seq i24_10 m24_10, s24_10⟩) (z24_10 : i24_10.size ≤ 1000) (u24_10 : deVs (deV K 2) i24_10.toList = some [(.str ("r" : Str)), (.str ("r" : Str)), (.str ("r" : Str))])
    {o24_11 : Option Addr} {i24_11 : Array Value} {m24_11 : Nat} {s24_11 : Array (Option Value)} (t24_11 : K.lookup p24_11 = some ⟨.type "tuple", o24_11, .seq i24_11 m24_11, s24_11⟩) (z24_11 : i24_11.size ≤ 1000) (u24_11 : deVs (deV K 2) i24_11.toList = some [(.str ("r" : Str)), (.str ("r" : Str)), (.str ("r" : Str))])
    {o24_12 : Option Addr} {i24_12 : Array Value} {m24_12 : Nat} {s24_12 : Array (Option Value)} (t24_12 : K.lookup p24_12 = some ⟨.type "tuple", o24_12, .seq i24_12 m24_12, s24_12⟩) (z24_12 : i24_12.size ≤ 1000) (u24_12 : deVs (deV K 2) i24_12.toList = some [(.str ("f" : Str)), (.str ("p" : Str))])
    {o24_13 : Option Addr} {i24_13 : Array Value} {m24_13 : Nat} {s24_13 : Array (Option Value)} (t24_13 : K.lookup p24_13 = some ⟨.type "tuple", o24_13, .seq i24_13 m24_13, s24_13⟩) (z24_13 : i24_13.size ≤ 1000) (u24_13 : deVs (deV K 2) i24_13.toList = some [(.str ("f" : Str)), (.str ("row" : Str))])
    {o24_14 : Option Addr} {i24_14 : Array Value} {m24_14 : Nat} {s24_14 : Array (Option Value)} (t24_14 : K.lookup p24_14 = some ⟨.type "tuple", o24_14, .seq i24_14 m24_14, s24_14⟩) (z24_14 : i24_14.size ≤ 1000) (u24_14 : deVs (deV K 2) i24_14.toList = some [(.str ("r" : Str)), (.str ("r" : Str)), (.str ("r" : Str))])
    {o24_15 : Option Addr} {i24_15 : Array Value} {m24_15 : Nat} {s24_15 : Array (Option Value)} (t24_15 : K.lookup p24_15 = some ⟨.type "tuple", o24_15, .seq i24_15 m24_15, s24_15⟩) (z24_15 : i24_15.size ≤ 1000) (u24_15 : deVs (deV K 2) i24_15.toList = some [(.str ("r" : Str)), (.str ("n" : Str))])
    {o24_16 : Option Addr} {i24_16 : Array Value} {m24_16 : Nat} {s24_16 : Array (Option Value)} (t24_16 : K.lookup p24_16 = some ⟨.type "tuple", o24_16, .seq i24_16 m24_16, s24_16⟩) (z24_16 : i24_16.size ≤ 1000) (u24_16 : deVs (deV K 2) i24_16.toList = some [(.str ("r" : Str)), (.str ("r" : Str)), (.str ("r" : Str))])
    {o24_17 : Option Addr} {i24_17 : Array Value} {m24_17 : Nat} {s24_17 : Array (Option Value)} (t24_17 : K.lookup p24_17 = some ⟨.type "tuple", o24_17, .seq i24_17 m24_17, s24_17⟩) (z24_17 : i24_17.size ≤ 1000) (u24_17 : deVs (deV K 2) i24_17.toList = some [(.str ("f" : Str))])
    {f25 : Addr} {e25 : Array DictEntry} {n25 : Nat} (c_GREATEST : PySem.W.nsIn K mainGlobals "GREATEST" = some (some (.ref f25))) (w_GREATEST : K.lookup f25 = some ⟨.type "dict", none, .dict e25 n25, #[]⟩) (y_GREATEST : PySem.W.KeysLit w.params e25.toList) (z_GREATEST : (f25 == sysModules) = false)
    {p25_0 : Tok}
    {p25_1 : Tok}
    {p25_2 : Tok}
    
    (v_GREATEST : e25.toList.map (fun e => (keyS e, e.val)) = [(some ("r" : Str), Value.int 7 p25_0), (some ("f" : Str), Value.int 5 p25_1), (some ("k" : Str), Value.int 7 p25_2)])
    {t26 : Tok} (c_MOST_ROW : PySem.W.nsIn K mainGlobals "MOST_ROW" = some (some (.int 6 t26)))
    (z_isinstance : PySem.W.nsIn K mainGlobals "isinstance" = some none)
    (z_int : PySem.W.nsIn K mainGlobals "int" = some none)
    (z_bool : PySem.W.nsIn K mainGlobals "bool" = some none)
    (z_tuple : PySem.W.nsIn K mainGlobals "tuple" = some none)
    (z_len : PySem.W.nsIn K mainGlobals "len" = some none)
    (z_all : PySem.W.nsIn K mainGlobals "all" = some none)
    (z_sorted : PySem.W.nsIn K mainGlobals "sorted" = some none)
    (z_set : PySem.W.nsIn K mainGlobals "set" = some none)
    (z_str : PySem.W.nsIn K mainGlobals "str" = some none)
    (z_zip : PySem.W.nsIn K mainGlobals "zip" = some none)
    (z_max : PySem.W.nsIn K mainGlobals "max" = some none)
    (z_range : PySem.W.nsIn K mainGlobals "range" = some none)
    (z_list : PySem.W.nsIn K mainGlobals "list" = some none) :
    ∃ fd : FuncData, (∀ (s : Shared) (v : Value), BindsTo s fd ⟨[v], []⟩ [("_law_script", v)]) ∧ ∀ base : Heap, K.In base → base.Ns mainGlobals mg → FnOk PySem.Challenge.rw_batchyard_k02_whole_codes.prog w K mg base CX0 8 fa fd ["_law_script"] (spM K 1 m_law) := by
  have e := hfa.symm.trans (PySem.W.mg_of X G a19)
  cases e
  have F1 := fun_mk (st := s_is_whole) l1 c1 k1
  have F2 := fun_mk (st := s_is_word) l2 c2 k2
  have F3 := fun_mk (st := s_is_record) l3 c3 k3
  have F4 := fun_mk (st := s_are_records) l4 c4 k4
  have F5 := fun_mk (st := s_is_code) l5 c5 k5
  have F6 := fun_mk (st := s_demand_code) l6 c6 k6
  have F7 := fun_mk (st := s_slots_of) l7 c7 k7
  have F8 := fun_mk (st := s_code_records) l8 c8 k8
  have F9 := fun_mk (st := s_code_in) l9 c9 k9
  have F10 := fun_mk (st := s__is_step) l10 c10 k10
  have F11 := fun_mk (st := s__is_part) l11 c11 k11
  have F12 := fun_mk (st := s__is_row) l12 c12 k12
  have F13 := fun_mk (st := s__cards_of) l13 c13 k13
  have F14 := fun_mk (st := s__written_step) l14 c14 k14
  have F15 := fun_mk (st := s__read_step) l15 c15 k15
  have F16 := fun_mk (st := s__law_pick) l16 c16 k16
  have F17 := fun_mk (st := s__law_step_code) l17 c17 k17
  have F18 := fun_mk (st := s__law_code) l18 c18 k18
  have F19 := fun_mk (st := s_law) l19 c19 k19
  let T : Tx K w mg := {
    f_is_whole := f1, d_is_whole := _, F_is_whole := F1, b_is_whole := F1.binds (ps := ["thing", "low", "high"]) fun _ _ _ _ _ _ us hl => match us, hl with | [_, _, _], _ => rfl, g_is_whole := PySem.W.mg_of X G a1,
    f_is_word := f2, d_is_word := _, F_is_word := F2, b_is_word := F2.binds (ps := ["thing"]) fun _ _ _ _ _ _ us hl => match us, hl with | [_], _ => rfl, g_is_word := PySem.W.mg_of X G a2,
    f_is_record := f3, d_is_record := _, F_is_record := F3, b_is_record := F3.binds (ps := ["thing"]) fun _ _ _ _ _ _ us hl => match us, hl with | [_], _ => rfl, g_is_record := PySem.W.mg_of X G a3,
    f_are_records := f4, d_are_records := _, F_are_records := F4, b_are_records := F4.binds (ps := ["thing"]) fun _ _ _ _ _ _ us hl => match us, hl with | [_], _ => rfl, g_are_records := PySem.W.mg_of X G a4,
    f_is_code := f5, d_is_code := _, F_is_code := F5, b_is_code := F5.binds (ps := ["thing"]) fun _ _ _ _ _ _ us hl => match us, hl with | [_], _ => rfl, g_is_code := PySem.W.mg_of X G a5,
    f_demand_code := f6, d_demand_code := _, F_demand_code := F6, b_demand_code := F6.binds (ps := ["thing"]) fun _ _ _ _ _ _ us hl => match us, hl with | [_], _ => rfl, g_demand_code := PySem.W.mg_of X G a6,
    f_slots_of := f7, d_slots_of := _, F_slots_of := F7, b_slots_of := F7.binds (ps := ["code"]) fun _ _ _ _ _ _ us hl => match us, hl with | [_], _ => rfl, g_slots_of := PySem.W.mg_of X G a7,
    f_code_records := f8, d_code_records := _, F_code_records := F8, b_code_records := F8.binds (ps := ["code"]) fun _ _ _ _ _ _ us hl => match us, hl with | [_], _ => rfl, g_code_records := PySem.W.mg_of X G a8,
    f_code_in := f9, d_code_in := _, F_code_in := F9, b_code_in := F9.binds (ps := ["records"]) fun _ _ _ _ _ _ us hl => match us, hl with | [_], _ => rfl, g_code_in := PySem.W.mg_of X G a9,
    f__is_step := f10, d__is_step := _, F__is_step := F10, b__is_step := F10.binds (ps := ["thing", "many"]) fun _ _ _ _ _ _ us hl => match us, hl with | [_, _], _ => rfl, g__is_step := PySem.W.mg_of X G a10,
    f__is_part := f11, d__is_part := _, F__is_part := F11, b__is_part := F11.binds (ps := ["thing", "kind", "many"]) fun _ _ _ _ _ _ us hl => match us, hl with | [_, _, _], _ => rfl, g__is_part := PySem.W.mg_of X G a11,
    f__is_row := f12, d__is_row := _, F__is_row := F12, b__is_row := F12.binds (ps := ["thing"]) fun _ _ _ _ _ _ us hl => match us, hl with | [_], _ => rfl, g__is_row := PySem.W.mg_of X G a12,
    f__cards_of := f13, d__cards_of := _, F__cards_of := F13, b__cards_of := F13.binds (ps := ["step"]) fun _ _ _ _ _ _ us hl => match us, hl with | [_], _ => rfl, g__cards_of := PySem.W.mg_of X G a13,
    f__written_step := f14, d__written_step := _, F__written_step := F14, b__written_step := F14.binds (ps := ["step"]) fun _ _ _ _ _ _ us hl => match us, hl with | [_], _ => rfl, g__written_step := PySem.W.mg_of X G a14,
    f__read_step := f15, d__read_step := _, F__read_step := F15, b__read_step := F15.binds (ps := ["record"]) fun _ _ _ _ _ _ us hl => match us, hl with | [_], _ => rfl, g__read_step := PySem.W.mg_of X G a15,
    f__law_pick := f16, d__law_pick := _, F__law_pick := F16, b__law_pick := F16.binds (ps := ["_law_script", "_law_k", "_law_many"]) fun _ _ _ _ _ _ us hl => match us, hl with | [_, _, _], _ => rfl, g__law_pick := PySem.W.mg_of X G a16,
    f__law_step_code := f17, d__law_step_code := _, F__law_step_code := F17, b__law_step_code := F17.binds (ps := ["_law_script", "_law_at", "_law_many"]) fun _ _ _ _ _ _ us hl => match us, hl with | [_, _, _], _ => rfl, g__law_step_code := PySem.W.mg_of X G a17,
    f__law_code := f18, d__law_code := _, F__law_code := F18, b__law_code := F18.binds (ps := ["_law_script", "_law_at"]) fun _ _ _ _ _ _ us hl => match us, hl with | [_, _], _ => rfl, g__law_code := PySem.W.mg_of X G a18,
    f_law := fa, d_law := _, F_law := F19, b_law := F19.binds (ps := ["_law_script"]) fun _ _ _ _ _ _ us hl => match us, hl with | [_], _ => rfl, g_law := PySem.W.mg_of X G a19,
    t_GREATEST_WORD := t20, c_GREATEST_WORD := PySem.W.mg_of X G c_GREATEST_WORD,
    t_MOST_WORDS := t21, c_MOST_WORDS := PySem.W.mg_of X G c_MOST_WORDS,
    t_MOST_RECORDS := t22, c_MOST_RECORDS := PySem.W.mg_of X G c_MOST_RECORDS,
    t_MOST_STEPS := t23, c_MOST_STEPS := PySem.W.mg_of X G c_MOST_STEPS,
    k_PARTS := f24, C_PARTS := dictC_mk w_PARTS y_PARTS z_PARTS v_PARTS (ents_cons (deV_tup t24_0 z24_0 u24_0) (ents_cons (deV_tup t24_1 z24_1 u24_1) (ents_cons (deV_tup t24_2 z24_2 u24_2) (ents_cons (deV_tup t24_3 z24_3 u24_3) (ents_cons (deV_tup t24_4 z24_4 u24_4) (ents_cons (deV_tup t24_5 z24_5 u24_5) (ents_cons (deV_tup t24_6 z24_6 u24_6) (ents_cons (deV_tup t24_7 z24_7 u24_7) (ents_cons (deV_tup t24_8 z24_8 u24_8) (ents_cons (deV_tup t24_9 z24_9 u24_9) (ents_cons (deV_tup t24_10 z24_10 u24_10) (ents_cons (deV_tup t24_11 z24_11 u24_11) (ents_cons (deV_tup t24_12 z24_12 u24_12) (ents_cons (deV_tup t24_13 z24_13 u24_13) (ents_cons (deV_tup t24_14 z24_14 u24_14) (ents_cons (deV_tup t24_15 z24_15 u24_15) (ents_cons (deV_tup t24_16 z24_16 u24_16) (ents_cons (deV_tup t24_17 z24_17 u24_17) ents_nil)))))))))))))))))), c_PARTS := PySem.W.mg_of X G c_PARTS,
    k_GREATEST := f25, C_GREATEST := dictC_mk w_GREATEST y_GREATEST z_GREATEST v_GREATEST (ents_cons rfl (ents_cons rfl (ents_cons rfl ents_nil))), c_GREATEST := PySem.W.mg_of X G c_GREATEST,
    t_MOST_ROW := t26, c_MOST_ROW := PySem.W.mg_of X G c_MOST_ROW,
    n_isinstance := PySem.W.mg_none_of X G z_isinstance,
    n_int := PySem.W.mg_none_of X G z_int,
    n_bool := PySem.W.mg_none_of X G z_bool,
    n_tuple := PySem.W.mg_none_of X G z_tuple,
    n_len := PySem.W.mg_none_of X G z_len,
    n_all := PySem.W.mg_none_of X G z_all,
    n_sorted := PySem.W.mg_none_of X G z_sorted,
    n_set := PySem.W.mg_none_of X G z_set,
    n_str := PySem.W.mg_none_of X G z_str,
    n_zip := PySem.W.mg_none_of X G z_zip,
    n_max := PySem.W.mg_none_of X G z_max,
    n_range := PySem.W.mg_none_of X G z_range,
    n_list := PySem.W.mg_none_of X G z_list }
  exact ⟨PySem.W.fnOf "law" "law" (defArgs s_law) (defBody s_law) (defScope s_law) .none kV19 dc19 pm19 an19 cd19 ct19, fun s v => .of_eq rfl, fun base _ _ => ok_law T⟩
end DD
open PySem PySem.W PyProof.Rows
set_option maxHeartbeats 0 in
theorem PySem.Challenge.cw_batchyard_k02_whole_codes_holds : PySem.Challenge.rw_batchyard_k02_whole_codes.Holds := by
  w_on; o_law; k_head; (case hw => w_witness2)
  k_fill
  refine L2.walk_of (l := PySem.Challenge.rw_batchyard_k02_whole_codes) (n := 63) (k := 8) (x := "_law_script") (CX := fun _ => L2.CX0) (sp := fun w => DD.spM _ 1 DD.m_law) rfl (by decide) rfl ⟨rfl, by decide, by decide⟩ (fun w h Y => PySem.W.kIn_of Y) ?F (fun _ _ a ns hl _ hS => DD.sp_law hl hS) (fun _ _ _ _ _ h => h)
  case F =>
    intro w mg fa h KX G hmg
    refine' DD.all_mk KX G hmg ?a1 ?l1 ?c1 ?k1 ?a2 ?l2 ?c2 ?k2 ?a3 ?l3 ?c3 ?k3 ?a4 ?l4 ?c4 ?k4 ?a5 ?l5 ?c5 ?k5 ?a6 ?l6 ?c6 ?k6 ?a7 ?l7 ?c7 ?k7 ?a8 ?l8 ?c8 ?k8 ?a9 ?l9 ?c9 ?k9 ?a10 ?l10 ?c10 ?k10 ?a11 ?l11 ?c11 ?k11 ?a12 ?l12 ?c12 ?k12 ?a13 ?l13 ?c13 ?k13 ?a14 ?l14 ?c14 ?k14 ?a15 ?l15 ?c15 ?k15 ?a16 ?l16 ?c16 ?k16 ?a17 ?l17 ?c17 ?k17 ?a18 ?l18 ?c18 ?k18 ?a19 ?l19 ?c19 ?k19 ?c_GREATEST_WORD ?c_MOST_WORDS ?c_MOST_RECORDS ?c_MOST_STEPS ?c_PARTS ?w_PARTS ?y_PARTS ?z_PARTS ?v_PARTS ?t24_0 ?z24_0 ?u24_0 ?t24_1 ?z24_1 ?u24_1 ?t24_2 ?z24_2 ?u24_2 ?t24_3 ?z24_3 ?u24_3 ?t24_4 ?z24_4 ?u24_4 ?t24_5 ?z24_5 ?u24_5 ?t24_6 ?z24_6 ?u24_6 ?t24_7 ?z24_7 ?u24_7 ?t24_8 ?z24_8 ?u24_8 ?t24_9 ?z24_9 ?u24_9 ?t24_10 ?z24_10 ?u24_10 ?t24_11 ?z24_11 ?u24_11 ?t24_12 ?z24_12 ?u24_12 ?t24_13 ?z24_13 ?u24_13 ?t24_14 ?z24_14 ?u24_14 ?t24_15 ?z24_15 ?u24_15 ?t24_16 ?z24_16 ?u24_16 ?t24_17 ?z24_17 ?u24_17 ?c_GREATEST ?w_GREATEST ?y_GREATEST ?z_GREATEST ?v_GREATEST ?c_MOST_ROW ?z_isinstance ?z_int ?z_bool ?z_tuple ?z_len ?z_all ?z_sorted ?z_set ?z_str ?z_zip ?z_max ?z_range ?z_list
    (case a1 => k_is); (case l1 => k_is); (case c1 => k_is); (case k1 => k_is); (case a2 => k_is); (case l2 => k_is); (case c2 => k_is); (case k2 => k_is); (case a3 => k_is); (case l3 => k_is); (case c3 => k_is); (case k3 => k_is); (case a4 => k_is); (case l4 => k_is); (case c4 => k_is); (case k4 => k_is); (case a5 => k_is); (case l5 => k_is); (case c5 => k_is); (case k5 => k_is); (case a6 => k_is); (case l6 => k_is); (case c6 => k_is); (case k6 => k_is); (case a7 => k_is); (case l7 => k_is); (case c7 => k_is); (case k7 => k_is); (case a8 => k_is); (case l8 => k_is); (case c8 => k_is); (case k8 => k_is); (case a9 => k_is); (case l9 => k_is); (case c9 => k_is); (case k9 => k_is); (case a10 => k_is); (case l10 => k_is); (case c10 => k_is); (case k10 => k_is); (case a11 => k_is); (case l11 => k_is); (case c11 => k_is); (case k11 => k_is); (case a12 => k_is); (case l12 => k_is); (case c12 => k_is); (case k12 => k_is); (case a13 => k_is); (case l13 => k_is); (case c13 => k_is); (case k13 => k_is); (case a14 => k_is); (case l14 => k_is); (case c14 => k_is); (case k14 => k_is); (case a15 => k_is); (case l15 => k_is); (case c15 => k_is); (case k15 => k_is); (case a16 => k_is); (case l16 => k_is); (case c16 => k_is); (case k16 => k_is); (case a17 => k_is); (case l17 => k_is); (case c17 => k_is); (case k17 => k_is); (case a18 => k_is); (case l18 => k_is); (case c18 => k_is); (case k18 => k_is); (case a19 => k_is); (case l19 => k_is); (case c19 => k_is); (case k19 => k_is); (case c_GREATEST_WORD => k_is); (case c_MOST_WORDS => k_is); (case c_MOST_RECORDS => k_is); (case c_MOST_STEPS => k_is); (case c_PARTS => k_is); (case w_PARTS => k_is); (case y_PARTS => exact ⟨⟨_, _, rfl, rfl⟩, ⟨⟨_, _, rfl, rfl⟩, ⟨⟨_, _, rfl, rfl⟩, ⟨⟨_, _, rfl, rfl⟩, ⟨⟨_, _, rfl, rfl⟩, ⟨⟨_, _, rfl, rfl⟩, ⟨⟨_, _, rfl, rfl⟩, ⟨⟨_, _, rfl, rfl⟩, ⟨⟨_, _, rfl, rfl⟩, ⟨⟨_, _, rfl, rfl⟩, ⟨⟨_, _, rfl, rfl⟩, ⟨⟨_, _, rfl, rfl⟩, ⟨⟨_, _, rfl, rfl⟩, ⟨⟨_, _, rfl, rfl⟩, ⟨⟨_, _, rfl, rfl⟩, ⟨⟨_, _, rfl, rfl⟩, ⟨⟨_, _, rfl, rfl⟩, ⟨⟨_, _, rfl, rfl⟩, trivial⟩⟩⟩⟩⟩⟩⟩⟩⟩⟩⟩⟩⟩⟩⟩⟩⟩⟩); (case z_PARTS => rfl); (case v_PARTS => rfl); (case t24_0 => k_is); (case z24_0 => decide); (case u24_0 => rfl); (case t24_1 => k_is); (case z24_1 => decide); (case u24_1 => rfl); (case t24_2 => k_is); (case z24_2 => decide); (case u24_2 => rfl); (case t24_3 => k_is); (case z24_3 => decide); (case u24_3 => rfl); (case t24_4 => k_is); (case z24_4 => decide); (case u24_4 => rfl); (case t24_5 => k_is); (case z24_5 => decide); (case u24_5 => rfl); (case t24_6 => k_is); (case z24_6 => decide); (case u24_6 => rfl); (case t24_7 => k_is); (case z24_7 => decide); (case u24_7 => rfl); (case t24_8 => k_is); (case z24_8 => decide); (case u24_8 => rfl); (case t24_9 => k_is); (case z24_9 => decide); (case u24_9 => rfl); (case t24_10 => k_is); (case z24_10 => decide); (case u24_10 => rfl); (case t24_11 => k_is); (case z24_11 => decide); (case u24_11 => rfl); (case t24_12 => k_is); (case z24_12 => decide); (case u24_12 => rfl); (case t24_13 => k_is); (case z24_13 => decide); (case u24_13 => rfl); (case t24_14 => k_is); (case z24_14 => decide); (case u24_14 => rfl); (case t24_15 => k_is); (case z24_15 => decide); (case u24_15 => rfl); (case t24_16 => k_is); (case z24_16 => decide); (case u24_16 => rfl); (case t24_17 => k_is); (case z24_17 => decide); (case u24_17 => rfl); (case c_GREATEST => k_is); (case w_GREATEST => k_is); (case y_GREATEST => exact ⟨⟨_, _, rfl, rfl⟩, ⟨⟨_, _, rfl, rfl⟩, ⟨⟨_, _, rfl, rfl⟩, trivial⟩⟩⟩); (case z_GREATEST => rfl); (case v_GREATEST => rfl); (case c_MOST_ROW => k_is); (case z_isinstance => k_is); (case z_int => k_is); (case z_bool => k_is); (case z_tuple => k_is); (case z_len => k_is); (case z_all => k_is); (case z_sorted => k_is); (case z_set => k_is); (case z_str => k_is); (case z_zip => k_is); (case z_max => k_is); (case z_range => k_is); (case z_list => k_is)
