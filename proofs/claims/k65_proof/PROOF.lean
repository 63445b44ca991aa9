import PyProof.Rows.All
import Wide.All
import OpenK.AllK
import Wide.FinOn
import HandS.ForMost
import HandS.IsInst
import HandS.Walk
import HandS.Wide
import HandS.TupMul
import HandS.TupAny
import HandS.TupLe
import HandS.Style
import HandS.Star
import HandS.Zip
import HandS.Steps
import HandS.Deep
import KE.KUnpackStar
import HandS.TryOnly
import KE.GoesEnum
import HandS.SetFor
import HandS.Strs
import HandS.HeadHook3
import HandS.ExcOwn
import HandS.WordsExc
import HandS.ExcIs
import HandS.RaiseMore
import Flt.Len
import PySem.Challenge.RW_batchyard_k65_whole_cards
set_option Elab.async false
set_option linter.all false
set_option maxRecDepth 100000
set_option maxHeartbeats 2000000
/-! what defs do to data: readings over a heap with lists of one's own laid over it -/
namespace DD
open PySem PySem.Spec PyProof.Rows L2

abbrev D := PyData
/-- lists of one's own -/
abbrev Ov := Addr → Option (List V)
def ov (H : Hp) (T : Ov) : Hp := fun a => match T a with
  | some xs => some (.lst xs)
  | none => H a
def Dis (H : Hp) (T : Ov) : Prop := ∀ a xs, T a = some xs → H a = none
def Ext (T0 T : Ov) : Prop := ∀ a xs, T0 a = some xs → T a = some xs
def put (T : Ov) (p : Addr) (xs : List V) : Ov := fun a => if a = p then some xs else T a
def cut (T : Ov) (p : Addr) : Ov := fun a => if a = p then none else T a

theorem ov_own {H : Hp} {T : Ov} {a : Addr} {xs : List V} (h : T a = some xs) : ov H T a = some (.lst xs) := by
  unfold ov; rw [h]
theorem ov_none {H : Hp} {T : Ov} {a : Addr} (h : T a = none) : ov H T a = H a := by
  unfold ov; rw [h]
theorem ov_free {H : Hp} {T : Ov} {a : Addr} (h : ov H T a = none) : T a = none ∧ H a = none := by
  cases e : T a with
  | none => rw [ov_none e] at h; exact ⟨rfl, h⟩
  | some xs => rw [ov_own e] at h; cases h
/-- all that H knows stays under T -/
theorem same_ov {H : Hp} {T : Ov} (d : Dis H T) : Same H (ov H T) := fun a o h => by
  cases e : T a with
  | none => rw [ov_none e]; exact h
  | some xs => have := d a xs e; rw [h] at this; cases this
theorem upd_ov {H : Hp} {T : Ov} {p : Addr} {o : HO} (h : T p = none) : upd (ov H T) p o = ov (upd H p o) T := by
  funext a
  by_cases e : a = p
  · subst e; rw [upd_same, ov_none h, upd_same]
  · rw [upd_ne e]
    cases q : T a with
    | none => rw [ov_none q, ov_none q, upd_ne e]
    | some xs => rw [ov_own q, ov_own q]
theorem upd_put {H : Hp} {T : Ov} {p : Addr} {xs : List V} : upd (ov H T) p (.lst xs) = ov H (put T p xs) := by
  funext a
  by_cases e : a = p
  · subst e
    have : put T a xs a = some xs := by unfold put; rw [if_pos rfl]
    rw [upd_same, ov_own this]
  · have : put T p xs a = T a := by unfold put; rw [if_neg e]
    rw [upd_ne e]
    unfold ov
    rw [this]
theorem put_same {T : Ov} {p : Addr} {xs : List V} : put T p xs p = some xs := by unfold put; rw [if_pos rfl]
theorem put_ne {T : Ov} {p a : Addr} {xs : List V} (h : a ≠ p) : put T p xs a = T a := by unfold put; rw [if_neg h]
theorem same_new {H : Hp} {p : Addr} {o : HO} (h : H p = none) : Same H (upd H p o) := fun b x e => by
  rw [upd_ne (ne_of_none e h)]; exact e
theorem dis_upd {H : Hp} {T : Ov} {p : Addr} {o : HO} (d : Dis H T) (h : T p = none) : Dis (upd H p o) T := fun a xs e => by
  have : a ≠ p := fun z => by rw [z, h] at e; cases e
  rw [upd_ne this]; exact d a xs e
theorem dis_put {H : Hp} {T : Ov} {p : Addr} {xs : List V} (d : Dis H T) (h : H p = none) : Dis H (put T p xs) := fun a ys e => by
  by_cases q : a = p
  · rw [q]; exact h
  · rw [put_ne q] at e; exact d a ys e
/-- a list of one's own becomes one that is known -/
theorem ov_freeze {H : Hp} {T : Ov} {p : Addr} {xs : List V} (h : T p = some xs) : ov H T = ov (upd H p (.lst xs)) (cut T p) := by
  funext a
  by_cases e : a = p
  · subst e
    have : cut T a a = none := by unfold cut; rw [if_pos rfl]
    rw [ov_own h, ov_none this, upd_same]
  · have : cut T p a = T a := by unfold cut; rw [if_neg e]
    unfold ov
    rw [this]
    cases q : T a with
    | none => exact (upd_ne e).symm
    | some ys => rfl

/-! ### data -/
theorem Same.sqt {K : PySem.W.Frag} {H H' : Hp} {a : Addr} {xs : List V} (e : Same H H') (h : SqT K H a xs) : SqT K H' a xs := by
  rcases h with (h | ⟨o, h⟩) | h
  · exact .inl (.inl (e _ _ h))
  · exact .inl (.inr ⟨o, e _ _ h⟩)
  · exact .inr h
mutual
theorem dp_mono {K : PySem.W.Frag} {H H' : Hp} (e : Same H H') : ∀ {v : V} {d : D}, Dp K H v d → Dp K H' v d
  | _, _, .non => .non
  | _, _, .bl b => .bl b
  | _, _, .int i => .int i
  | _, _, .str x => .str x
  | _, _, .lst h t => .lst (e.seq h) (dpa_mono e t)
  | _, _, .tup h t => .tup (Same.sqt e h) (dpa_mono e t)
theorem dpa_mono {K : PySem.W.Frag} {H H' : Hp} (e : Same H H') : ∀ {vs : List V} {ds : List D}, DpAll K H vs ds → DpAll K H' vs ds
  | _, _, .nil => .nil
  | _, _, .cons h t => .cons (dp_mono e h) (dpa_mono e t)
end
theorem dpa_len {K : PySem.W.Frag} {H : Hp} : ∀ {vs : List V} {ds : List D}, DpAll K H vs ds → vs.length = ds.length
  | _, _, .nil => rfl
  | _, _, .cons _ t => by rw [List.length_cons, List.length_cons, dpa_len t]
theorem dpa_get {K : PySem.W.Frag} {H : Hp} : ∀ {vs : List V} {ds : List D}, DpAll K H vs ds → ∀ {i : Nat} {d : D}, ds[i]? = some d → ∃ v, vs[i]? = some v ∧ Dp K H v d
  | _, _, .nil, i, d, h => by simp at h
  | _, _, .cons h t, 0, d, e => by
    simp at e; subst e; exact ⟨_, rfl, h⟩
  | _, _, .cons h t, i + 1, d, e => by
    obtain ⟨v, q, r⟩ := dpa_get t (i := i) (by simpa using e)
    exact ⟨v, by simpa using q, r⟩
theorem dpa_append {K : PySem.W.Frag} {H : Hp} : ∀ {vs ws : List V} {ds es : List D}, DpAll K H vs ds → DpAll K H ws es → DpAll K H (vs ++ ws) (ds ++ es)
  | _, _, _, _, .nil, s => s
  | _, _, _, _, .cons h t, s => .cons h (dpa_append t s)
theorem dpa_take {K : PySem.W.Frag} {H : Hp} : ∀ {vs : List V} {ds : List D} (n : Nat), DpAll K H vs ds → DpAll K H (vs.take n) (ds.take n)
  | _, _, 0, _ => .nil
  | _, _, _ + 1, .nil => .nil
  | _, _, n + 1, .cons h t => .cons h (dpa_take n t)
theorem dpa_drop {K : PySem.W.Frag} {H : Hp} : ∀ {vs : List V} {ds : List D} (n : Nat), DpAll K H vs ds → DpAll K H (vs.drop n) (ds.drop n)
  | _, _, 0, h => h
  | _, _, _ + 1, .nil => .nil
  | _, _, n + 1, .cons _ t => dpa_drop n t
theorem dpa_rep {K : PySem.W.Frag} {H : Hp} {vs : List V} {ds : List D} (h : DpAll K H vs ds) : ∀ n : Nat, DpAll K H (List.replicate n vs).flatten (List.replicate n ds).flatten
  | 0 => .nil
  | n + 1 => by
    rw [List.replicate_succ, List.replicate_succ, List.flatten_cons, List.flatten_cons]
    exact dpa_append h (dpa_rep h n)
theorem dpa_ints {K : PySem.W.Frag} {H : Hp} : ∀ ns : List Int, DpAll K H (ns.map V.int) (ns.map PyData.int)
  | [] => .nil
  | n :: r => .cons (.int n) (dpa_ints r)
theorem dpa_snoc {K : PySem.W.Frag} {H : Hp} {vs : List V} {ds : List D} {v : V} {d : D} (h : DpAll K H vs ds) (g : Dp K H v d) : DpAll K H (vs ++ [v]) (ds ++ [d]) := dpa_append h (.cons g .nil)
theorem dpa_nil_iff {K : PySem.W.Frag} {H : Hp} {vs : List V} {ds : List D} (h : DpAll K H vs ds) : ds = [] ↔ vs = [] := by
  cases h with
  | nil => exact Iff.intro (fun _ => rfl) (fun _ => rfl)
  | cons _ _ => exact Iff.intro (fun z => nomatch z) (fun z => nomatch z)

/-! ### slots -/
inductive Sl where
  | val (d : D)
  | own (ds : List D)
abbrev En := List (Option Sl)

/-- where one stands in a def: H0, T0 what the caller has -/
structure Good (K : PySem.W.Frag) (H0 : Hp) (T0 : Ov) (σ : L2.St) (ρ : En) (H : Hp) (T : Ov) : Prop where
  len : ρ.length = σ.length
  val : ∀ (i : Nat) (d : D), ρ[i]? = some (some (Sl.val d)) → ∃ v, σ[i]? = some (some v) ∧ Dp K H v d
  own : ∀ (i : Nat) (ds : List D), ρ[i]? = some (some (Sl.own ds)) → ∃ p xs, σ[i]? = some (some (.ref p)) ∧ T p = some xs ∧ T0 p = none ∧ DpAll K H xs ds
  inj : ∀ (i j : Nat) (ds es : List D) (p : Addr), ρ[i]? = some (some (Sl.own ds)) → ρ[j]? = some (some (Sl.own es)) → σ[i]? = some (some (.ref p)) → σ[j]? = some (some (.ref p)) → i = j
  dis : Dis H T
  ext : Ext T0 T
  ex : Same H0 H
section
variable {K : PySem.W.Frag} {H0 H H' : Hp} {T0 T : Ov} {σ : L2.St} {ρ : En}
theorem Good.mono (G : Good K H0 T0 σ ρ H T) (e : Same H H') (d : Dis H' T) : Good K H0 T0 σ ρ H' T :=
  ⟨G.len, fun i x h => let ⟨v, a, b⟩ := G.val i x h; ⟨v, a, dp_mono e b⟩, fun i x h => let ⟨p, xs, a, b, c, f⟩ := G.own i x h; ⟨p, xs, a, b, c, dpa_mono e f⟩, G.inj, d, G.ext, G.ex.trans e⟩
theorem get_set {α : Type} {l : List α} {i j : Nat} {x : α} {y : α} (h : (l.set i x)[j]? = some y) : (j = i ∧ y = x ∧ i < l.length) ∨ (j ≠ i ∧ l[j]? = some y) := by
  by_cases e : j = i
  · subst e
    by_cases q : j < l.length
    · rw [List.getElem?_set_self q] at h
      exact .inl ⟨rfl, (Option.some.inj h).symm, q⟩
    · rw [List.getElem?_eq_none (by simpa using q)] at h; cases h
  · rw [List.getElem?_set_ne (Ne.symm e)] at h
    exact .inr ⟨e, h⟩
theorem set_self {α : Type} {l : List α} {i : Nat} {x : α} (h : i < l.length) : (l.set i x)[i]? = some x := List.getElem?_set_self h
/-- a slot gets a value -/
theorem Good.set {i : Nat} {v : V} {d : D} (G : Good K H0 T0 σ ρ H T) (g : Dp K H v d) : Good K H0 T0 (σ.set i (some v)) (ρ.set i (some (Sl.val d))) H T := by
  refine ⟨by rw [List.length_set, List.length_set]; exact G.len, fun j x h => ?_, fun j x h => ?_, fun j k ds es p h1 h2 h3 h4 => ?_, G.dis, G.ext, G.ex⟩
  · rcases get_set h with ⟨e, q, l⟩ | ⟨e, q⟩
    · subst e
      cases q
      exact ⟨v, set_self (by rw [← G.len]; exact l), g⟩
    · obtain ⟨w, a, b⟩ := G.val j x q
      exact ⟨w, by rw [List.getElem?_set_ne (Ne.symm e)]; exact a, b⟩
  · rcases get_set h with ⟨e, q, l⟩ | ⟨e, q⟩
    · cases q
    · obtain ⟨p, xs, a, b⟩ := G.own j x q
      exact ⟨p, xs, by rw [List.getElem?_set_ne (Ne.symm e)]; exact a, b⟩
  · rcases get_set h1 with ⟨_, q, _⟩ | ⟨e1, q1⟩
    · cases q
    · rcases get_set h2 with ⟨_, q, _⟩ | ⟨e2, q2⟩
      · cases q
      · rw [List.getElem?_set_ne (Ne.symm e1)] at h3
        rw [List.getElem?_set_ne (Ne.symm e2)] at h4
        exact G.inj j k ds es p q1 q2 h3 h4
/-- a slot gets a new list of one's own -/
theorem Good.setOwn {i : Nat} {p : Addr} {xs : List V} {ds : List D} (G : Good K H0 T0 σ ρ H T) (g : DpAll K H xs ds) (hp : ov H T p = none) :
    Good K H0 T0 (σ.set i (some (.ref p))) (ρ.set i (some (Sl.own ds))) H (put T p xs) := by
  obtain ⟨hT, hH⟩ := ov_free hp
  have h0 : T0 p = none := by
    cases e : T0 p with
    | none => rfl
    | some ys => have := G.ext p ys e; rw [hT] at this; cases this
  have ne : ∀ a ys, T a = some ys → a ≠ p := fun a ys e z => by rw [z, hT] at e; cases e
  refine ⟨by rw [List.length_set, List.length_set]; exact G.len, fun j x h => ?_, fun j x h => ?_, fun j k ds es q h1 h2 h3 h4 => ?_, dis_put G.dis hH, fun a ys e => ?_, G.ex⟩
  · rcases get_set h with ⟨e, q, l⟩ | ⟨e, q⟩
    · cases q
    · obtain ⟨w, a, b⟩ := G.val j x q
      exact ⟨w, by rw [List.getElem?_set_ne (Ne.symm e)]; exact a, b⟩
  · rcases get_set h with ⟨e, q, l⟩ | ⟨e, q⟩
    · cases q
      subst e
      exact ⟨p, xs, set_self (by rw [← G.len]; exact l), put_same, h0, g⟩
    · obtain ⟨r, ys, a, b, c⟩ := G.own j x q
      exact ⟨r, ys, by rw [List.getElem?_set_ne (Ne.symm e)]; exact a, by rw [put_ne (ne r ys b)]; exact b, c⟩
  · rcases get_set h1 with ⟨e1, q1, l1⟩ | ⟨e1, q1⟩
    · rcases get_set h2 with ⟨e2, q2, l2⟩ | ⟨e2, q2⟩
      · rw [e1, e2]
      · subst e1
        rw [set_self (by rw [← G.len]; exact l1)] at h3
        cases h3
        rw [List.getElem?_set_ne (Ne.symm e2)] at h4
        obtain ⟨r, ys, a, b, _⟩ := G.own k es q2
        rw [h4] at a
        cases a
        exact absurd rfl (ne _ ys b)
    · rcases get_set h2 with ⟨e2, q2, l2⟩ | ⟨e2, q2⟩
      · subst e2
        rw [set_self (by rw [← G.len]; exact l2)] at h4
        cases h4
        rw [List.getElem?_set_ne (Ne.symm e1)] at h3
        obtain ⟨r, ys, a, b, _⟩ := G.own j _ q1
        rw [h3] at a
        cases a
        exact absurd rfl (ne _ ys b)
      · rw [List.getElem?_set_ne (Ne.symm e1)] at h3
        rw [List.getElem?_set_ne (Ne.symm e2)] at h4
        exact G.inj j k _ es q q1 q2 h3 h4
  · rw [put_ne (ne a ys (G.ext a ys e))]
    exact G.ext a ys e
/-- a list of one's own turns -/
theorem Good.turn {i : Nat} {p : Addr} {xs ys : List V} {ds es : List D} (G : Good K H0 T0 σ ρ H T) (h : ρ[i]? = some (some (Sl.own ds))) (hs : σ[i]? = some (some (.ref p))) (ht : T p = some xs) (g : DpAll K H ys es) :
    Good K H0 T0 σ (ρ.set i (some (Sl.own es))) H (put T p ys) := by
  obtain ⟨p', xs', a, b, c, f⟩ := G.own i ds h
  rw [hs] at a
  cases a
  refine ⟨by rw [List.length_set]; exact G.len, fun j x q => ?_, fun j x q => ?_, fun j k as bs r h1 h2 h3 h4 => ?_, dis_put G.dis (G.dis p xs ht), fun a zs e => ?_, G.ex⟩
  · rcases get_set q with ⟨_, q, _⟩ | ⟨_, q⟩
    · cases q
    · exact G.val j x q
  · rcases get_set q with ⟨e, q, _⟩ | ⟨e, q⟩
    · cases q
      subst e
      exact ⟨p, ys, hs, put_same, c, g⟩
    · obtain ⟨r, zs, a, b, c⟩ := G.own j x q
      have : r ≠ p := fun z => e (G.inj j i x ds p q h (z ▸ a) hs)
      exact ⟨r, zs, a, by rw [put_ne this]; exact b, c⟩
  · have o1 : ∃ us, ρ[j]? = some (some (Sl.own us)) := by
      rcases get_set h1 with ⟨e, q, _⟩ | ⟨_, q⟩
      · exact ⟨ds, e ▸ h⟩
      · exact ⟨_, q⟩
    have o2 : ∃ us, ρ[k]? = some (some (Sl.own us)) := by
      rcases get_set h2 with ⟨e, q, _⟩ | ⟨_, q⟩
      · exact ⟨ds, e ▸ h⟩
      · exact ⟨_, q⟩
    obtain ⟨u1, o1⟩ := o1
    obtain ⟨u2, o2⟩ := o2
    exact G.inj j k u1 u2 r o1 o2 h3 h4
  · have : a ≠ p := fun z => by rw [z, c] at e; cases e
    rw [put_ne this]
    exact G.ext a zs e
def frz (i : Nat) (ρ : En) : En := match ρ[i]? with
  | some (some (Sl.own ds)) => ρ.set i (some (.val (.list ds)))
  | _ => ρ
/-- a list of one's own becomes a value -/
theorem Good.freeze (i : Nat) (G : Good K H0 T0 σ ρ H T) : ∃ H' T', Good K H0 T0 σ (frz i ρ) H' T' ∧ ov H T = ov H' T' ∧ Same H H' := by
  unfold frz
  split
  · rename_i ds h
    obtain ⟨p, xs, a, b, c, f⟩ := G.own i ds h
    have hp := G.dis p xs b
    have sm : Same H (upd H p (.lst xs)) := same_new hp
    have ne : ∀ r ys, T r = some ys → r ≠ p → cut T p r = some ys := fun r ys e q => by unfold cut; rw [if_neg q]; exact e
    refine ⟨upd H p (.lst xs), cut T p, ⟨by rw [List.length_set]; exact G.len, fun j x q => ?_, fun j x q => ?_, fun j k as bs r h1 h2 h3 h4 => ?_, fun r ys e => ?_, fun r ys e => ?_, G.ex.trans sm⟩, ov_freeze b, sm⟩
    · rcases get_set q with ⟨e, q, _⟩ | ⟨e, q⟩
      · cases q
        subst e
        exact ⟨.ref p, a, .lst (SqL.of upd_same) (dpa_mono sm f)⟩
      · obtain ⟨v, g, k⟩ := G.val j x q
        exact ⟨v, g, dp_mono sm k⟩
    · rcases get_set q with ⟨e, q, _⟩ | ⟨e, q⟩
      · cases q
      · obtain ⟨r, ys, g, k, l, m⟩ := G.own j x q
        exact ⟨r, ys, g, ne r ys k fun z => e (G.inj j i x ds p q h (z ▸ g) a), l, dpa_mono sm m⟩
    · rcases get_set h1 with ⟨_, q, _⟩ | ⟨_, q1⟩
      · cases q
      · rcases get_set h2 with ⟨_, q, _⟩ | ⟨_, q2⟩
        · cases q
        · exact G.inj j k as bs r q1 q2 h3 h4
    · unfold cut at e
      split at e
      · cases e
      · rename_i q
        rw [upd_ne q]
        exact G.dis r ys e
    · exact ne r ys (G.ext r ys e) fun z => by rw [z, c] at e; cases e
  · exact ⟨H, T, G, rfl, Same.refl H⟩
end
end DD

set_option Elab.async false
set_option linter.all false
set_option maxRecDepth 100000
set_option maxHeartbeats 2000000
namespace DD
open PySem PySem.Spec PyProof.Rows L2

inductive Fl where
  | nx (ρ : En)
  | rt (d : D)
  | bk (ρ : En)
  | ct (ρ : En)

section
variable (K : PySem.W.Frag)
structure ET (te : TE) (m : En → Option D) : Prop where
  run : ∀ {H0 : Hp} {T0 : Ov} {σ : L2.St} {ρ : En} {H : Hp} {T : Ov} {d : D}, Good K H0 T0 σ ρ H T → m ρ = some d →
    ∀ Q : VK, (∀ v H', Same H H' → Dis H' T → Dp K H' v d → Q v (ov H' T)) → te σ (ov H T) Q
structure FL (te : TE) (m : En → Option (List D)) : Prop where
  run : ∀ {H0 : Hp} {T0 : Ov} {σ : L2.St} {ρ : En} {H : Hp} {T : Ov} {ds : List D}, Good K H0 T0 σ ρ H T → m ρ = some ds →
    ∀ Q : VK, (∀ p xs H', Same H H' → Dis H' T → ov H' T p = none → DpAll K H' xs ds → Q (.ref p) (upd (ov H' T) p (.lst xs))) → te σ (ov H T) Q
structure TTm (tt : TT) (m : En → Option Bool) : Prop where
  run : ∀ {H0 : Hp} {T0 : Ov} {σ : L2.St} {ρ : En} {H : Hp} {T : Ov} {b : Bool}, Good K H0 T0 σ ρ H T → m ρ = some b →
    ∀ Q : Bool → Hp → Prop, (∀ H', Same H H' → Dis H' T → Q b (ov H' T)) → tt σ (ov H T) Q
structure TAm (ta : TA) (m : En → Option (List D)) : Prop where
  run : ∀ {H0 : Hp} {T0 : Ov} {σ : L2.St} {ρ : En} {H : Hp} {T : Ov} {ds : List D}, Good K H0 T0 σ ρ H T → m ρ = some ds →
    ∀ Q : List V → Hp → Prop, (∀ vs H', Same H H' → Dis H' T → DpAll K H' vs ds → Q vs (ov H' T)) → ta σ (ov H T) Q
structure RD (r : R2) (f : D → D → Option D) : Prop where
  run : ∀ {H : Hp} {T : Ov} {x y : V} {a b d : D}, Dis H T → Dp K H x a → Dp K H y b → f a b = some d →
    ∀ Q : VK, (∀ v H', Same H H' → Dis H' T → Dp K H' v d → Q v (ov H' T)) → r x y (ov H T) Q
structure UD (r : V → Hp → VK → Prop) (f : D → Option D) : Prop where
  run : ∀ {H : Hp} {T : Ov} {x : V} {a d : D}, Dis H T → Dp K H x a → f a = some d →
    ∀ Q : VK, (∀ v H', Same H H' → Dis H' T → Dp K H' v d → Q v (ov H' T)) → r x (ov H T) Q
structure CD (r : List V → Hp → VK → Prop) (f : List D → Option D) : Prop where
  run : ∀ {H : Hp} {T : Ov} {vs : List V} {ds : List D} {d : D}, Dis H T → DpAll K H vs ds → f ds = some d →
    ∀ Q : VK, (∀ v H', Same H H' → Dis H' T → Dp K H' v d → Q v (ov H' T)) → r vs (ov H T) Q
structure CL (r : List V → Hp → VK → Prop) (f : List D → Option (List D)) : Prop where
  run : ∀ {H : Hp} {T : Ov} {vs : List V} {ds es : List D}, Dis H T → DpAll K H vs ds → f ds = some es →
    ∀ Q : VK, (∀ p xs H', Same H H' → Dis H' T → ov H' T p = none → DpAll K H' xs es → Q (.ref p) (upd (ov H' T) p (.lst xs))) → r vs (ov H T) Q
/-- a target; vs: the slots that it may change -/
structure TGm (vs : List Nat) (g : TG) (m : D → En → Option En) : Prop where
  run : ∀ {H0 : Hp} {T0 : Ov} {σ : L2.St} {ρ ρ2 : En} {H : Hp} {T : Ov} {v : V} {d : D}, Good K H0 T0 σ ρ H T → Dp K H v d → m d ρ = some ρ2 →
    ∀ Q : L2.St → Hp → Prop, (∀ σ2 H', Good K H0 T0 σ2 ρ2 H' T → Same H H' → wipe σ2 vs = wipe σ vs → Q σ2 (ov H' T)) → g v σ (ov H T) Q
structure TGsm (vs : List Nat) (g : TGs) (m : List D → En → Option En) : Prop where
  run : ∀ {H0 : Hp} {T0 : Ov} {σ : L2.St} {ρ ρ2 : En} {H : Hp} {T : Ov} {xs : List V} {ds : List D}, Good K H0 T0 σ ρ H T → DpAll K H xs ds → m ds ρ = some ρ2 →
    ∀ Q : L2.St → Hp → Prop, (∀ σ2 H', Good K H0 T0 σ2 ρ2 H' T → Same H H' → wipe σ2 vs = wipe σ vs → Q σ2 (ov H' T)) → g xs σ (ov H T) Q
/-- what is walked: the data that come -/
structure Wk (J : It) (Hm : Hp) (ds : List D) : Prop where
  go : ∀ {H : Hp} {T : Ov} (i : Nat), Same Hm H → Dis H T → i < ds.length → J.go i (ov H T)
  stop : ∀ {H : Hp} {T : Ov}, Same Hm H → Dis H T → J.stop ds.length (ov H T)
  yld : ∀ {H : Hp} {T : Ov} (i : Nat) {x : V} {Hc : Hp} {d : D}, Same Hm H → Dis H T → ds[i]? = some d → J.yld i (ov H T) x Hc → ∃ H2, Hc = ov H2 T ∧ Same H H2 ∧ Dis H2 T ∧ Dp K H2 x d
structure IT (wi : TI) (m : En → Option (List D)) : Prop where
  run : ∀ {H0 : Hp} {T0 : Ov} {σ : L2.St} {ρ : En} {H : Hp} {T : Ov} {ds : List D}, Good K H0 T0 σ ρ H T → m ρ = some ds →
    ∀ R : It → Hp → Prop, (∀ J H', Same H H' → Dis H' T → Wk K J H' ds → R J (ov H' T)) → wi σ (ov H T) R
def FlOk (H0 : Hp) (T0 : Ov) (E : Ends) : Fl → Prop
  | .nx ρ => ∀ σ H T, Good K H0 T0 σ ρ H T → E.nx σ (ov H T)
  | .bk ρ => ∀ σ H T, Good K H0 T0 σ ρ H T → E.bk σ (ov H T)
  | .ct ρ => ∀ σ H T, Good K H0 T0 σ ρ H T → E.ct σ (ov H T)
  | .rt d => ∀ v H T, Same H0 H → Dis H T → Ext T0 T → Dp K H v d → E.rt v (ov H T)
structure TSm (t : TS) (m : En → Option Fl) : Prop where
  run : ∀ {H0 : Hp} {T0 : Ov} {σ : L2.St} {ρ : En} {H : Hp} {T : Ov} {f : Fl}, Good K H0 T0 σ ρ H T → m ρ = some f → ∀ E : Ends, FlOk K H0 T0 E f → t E σ (ov H T)
/-- a def's promise by its mirror -/
def spM (n : Nat) (m : List D → Option D) : Sp := fun vs Hx Q _ => ∃ ds d H T, DpAll K H vs ds ∧ ds.length = n ∧ m ds = some d ∧ Hx = ov H T ∧ Dis H T ∧ ∀ v H', Same H H' → Dis H' T → Dp K H' v d → Q v (ov H' T)
end

/-! ### mirrors of expressions -/
def mVar (i : Nat) : En → Option D := fun ρ => match ρ[i]? with
  | some (some (.val d)) => some d
  | _ => none
def mC (d : D) : En → Option D := fun _ => some d
def mOp (f : D → D → Option D) (a b : En → Option D) : En → Option D := fun ρ => (a ρ).bind fun x => (b ρ).bind fun y => f x y
def mUn (f : D → Option D) (a : En → Option D) : En → Option D := fun ρ => (a ρ).bind f
def mList (a : En → Option (List D)) : En → Option D := fun ρ => (a ρ).map PyData.list
def mNil : En → Option (List D) := fun _ => some []
def mCons (a : En → Option D) (b : En → Option (List D)) : En → Option (List D) := fun ρ => (a ρ).bind fun x => (b ρ).map fun y => x :: y
def cap : Nat := 100000
def sized (ds : List D) : Option (List D) := if ds.length ≤ cap then some ds else none
def mTup (a : En → Option (List D)) : En → Option D := fun ρ => (a ρ).bind fun x => (sized x).map PyData.tuple
def mLst (a : En → Option (List D)) : En → Option (List D) := fun ρ => (a ρ).bind sized
def mCall (f : List D → Option D) (a : En → Option (List D)) : En → Option D := fun ρ => (a ρ).bind f
def mCallL (f : List D → Option (List D)) (a : En → Option (List D)) : En → Option (List D) := fun ρ => (a ρ).bind f
def isB : D → Option Bool
  | .bool b => some b
  | _ => none
def mTest (a : En → Option D) : En → Option Bool := fun ρ => (a ρ).bind isB
def mAnd (a b : En → Option Bool) : En → Option Bool := fun ρ => (a ρ).bind fun x => if x = true then b ρ else some false
def mOr (a b : En → Option Bool) : En → Option Bool := fun ρ => (a ρ).bind fun x => if x = true then some true else b ρ
def mNot (a : En → Option Bool) : En → Option Bool := fun ρ => (a ρ).map (!·)
def mAndV (a b : En → Option D) : En → Option D := fun ρ => (a ρ).bind fun x => (isB x).bind fun c => if c = true then b ρ else some (.bool false)
def mOrV (a b : En → Option D) : En → Option D := fun ρ => (a ρ).bind fun x => (isB x).bind fun c => if c = true then some (.bool true) else b ρ
def mNotV (a : En → Option D) : En → Option D := fun ρ => (a ρ).bind fun x => (isB x).map fun c => .bool (!c)
def mIfE (c : En → Option Bool) (a b : En → Option D) : En → Option D := fun ρ => (c ρ).bind fun x => if x = true then a ρ else b ρ
def mChain (f g : D → D → Option D) (a b c : En → Option D) : En → Option D := fun ρ => (a ρ).bind fun x => (b ρ).bind fun y => (f x y).bind fun z => (isB z).bind fun k => if k = true then (c ρ).bind fun w => g y w else some (.bool false)

section
variable {K : PySem.W.Frag} {ta tb tc te : TE} {ma mb mc : En → Option D} {r r' : R2} {f g : D → D → Option D}
theorem bind_some {α β : Type} {o : Option α} {k : α → Option β} {b : β} (h : o.bind k = some b) : ∃ a, o = some a ∧ k a = some b := by
  cases o with
  | none => cases h
  | some a => exact ⟨a, rfl, h⟩
theorem map_some {α β : Type} {o : Option α} {k : α → β} {b : β} (h : o.map k = some b) : ∃ a, o = some a ∧ k a = b := by
  cases o with
  | none => cases h
  | some a => exact ⟨a, rfl, Option.some.inj h⟩
theorem sized_some {ds es : List D} (h : sized ds = some es) : es = ds ∧ ds.length ≤ cap := by
  unfold sized at h
  split at h
  · exact ⟨(Option.some.inj h).symm, by assumption⟩
  · cases h
theorem cap_line {n : Nat} (h : n ≤ cap) : n ≤ sizeLine := Nat.le_trans h (by decide)
theorem cap_lt {n : Nat} (h : n ≤ cap) : n < sizeLine := Nat.lt_of_le_of_lt h (by decide)
theorem isB_some {d : D} {b : Bool} (h : isB d = some b) : d = .bool b := by
  cases d <;> simp [isB] at h
  subst h; rfl
theorem dp_bool {H : Hp} {v : V} {b : Bool} (h : Dp K H v (.bool b)) : v = .bl b := by cases h; rfl

theorem ev_var (i : Nat) : ET K (tVar i) (mVar i) := by
  refine ⟨fun {H0 T0 σ ρ H T d} G h Q q => ?_⟩
  unfold mVar at h
  split at h
  · rename_i x e
    cases h
    obtain ⟨v, a, b⟩ := G.val i d e
    exact ⟨v, a, q v H (Same.refl H) G.dis b⟩
  · cases h
theorem ev_c {v : V} {d : D} (h : ∀ H, Dp K H v d) : ET K (tC v) (mC d) := by
  refine ⟨fun {H0 T0 σ ρ H T e} G hh Q q => ?_⟩
  cases hh
  exact q v H (Same.refl H) G.dis (h H)
theorem ev_int {i : Int} : ET K (tC (.int i)) (mC (.int i)) := ev_c fun _ => .int i
theorem ev_str {x : Str} : ET K (tC (.str x)) (mC (.str x)) := ev_c fun _ => .str x
theorem ev_bl {b : Bool} : ET K (tC (.bl b)) (mC (.bool b)) := ev_c fun _ => .bl b
theorem ev_non : ET K (tC .non) (mC .none) := ev_c fun _ => .non
theorem ev_op (hr : RD K r f) (ha : ET K ta ma) (hb : ET K tb mb) : ET K (tOp r ta tb) (mOp f ma mb) := by
  refine ⟨fun {H0 T0 σ ρ H T d} G h Q q => ?_⟩
  obtain ⟨x, hx, h⟩ := bind_some h
  obtain ⟨y, hy, h⟩ := bind_some h
  refine ha.run G hx _ fun v H1 s1 d1 p1 => ?_
  refine hb.run (G.mono s1 d1) hy _ fun u H2 s2 d2 p2 => ?_
  exact hr.run d2 (dp_mono s2 p1) p2 h Q fun w H3 s3 d3 p3 => q w H3 ((s1.trans s2).trans s3) d3 p3
theorem ev_un {ru : V → Hp → VK → Prop} {fu : D → Option D} (hr : UD K ru fu) (ha : ET K ta ma) : ET K (tUn ru ta) (mUn fu ma) := by
  refine ⟨fun {H0 T0 σ ρ H T d} G h Q q => ?_⟩
  obtain ⟨x, hx, h⟩ := bind_some h
  refine ha.run G hx _ fun v H1 s1 d1 p1 => ?_
  exact hr.run d1 p1 h Q fun w H3 s3 d3 p3 => q w H3 (s1.trans s3) d3 p3
theorem ev_chain (hr : RD K r f) (hr' : RD K r' g) (ha : ET K ta ma) (hb : ET K tb mb) (hc : ET K tc mc) : ET K (tChain r r' ta tb tc) (mChain f g ma mb mc) := by
  refine ⟨fun {H0 T0 σ ρ H T d} G h Q q => ?_⟩
  obtain ⟨x, hx, h1⟩ := bind_some h
  obtain ⟨y, hy, h2⟩ := bind_some h1
  obtain ⟨z, hz, h3⟩ := bind_some h2
  obtain ⟨k, hk, h4⟩ := bind_some h3
  clear h h1 h2 h3
  obtain rfl := isB_some hk
  refine ha.run G hx _ fun v H1 s1 d1 p1 => ?_
  refine hb.run (G.mono s1 d1) hy _ fun u H2 s2 d2 p2 => ?_
  refine hr.run d2 (dp_mono s2 p1) p2 hz _ fun w H3 s3 d3 p3 => ?_
  cases dp_bool p3
  refine ⟨k, rfl, ?_⟩
  have G3 := (G.mono s1 d1).mono (s2.trans s3) d3
  cases k with
  | true =>
    rw [if_pos rfl] at h4 ⊢
    obtain ⟨w', hw, h5⟩ := bind_some h4
    refine hc.run G3 hw _ fun u4 H4 s4 d4 p4 => ?_
    exact hr'.run d4 (dp_mono (s3.trans s4) p2) p4 h5 Q fun w5 H5 s5 d5 p5 => q w5 H5 ((s1.trans s2).trans ((s3.trans s4).trans s5)) d5 p5
  | false =>
    rw [if_neg Bool.false_ne_true] at h4 ⊢
    cases h4
    exact q _ H3 ((s1.trans s2).trans s3) d3 (.bl false)
theorem ev_list (h : FL K te (m : En → Option (List D))) : ET K te (mList m) := by
  refine ⟨fun {H0 T0 σ ρ H T d} G hh Q q => ?_⟩
  obtain ⟨ds, hd, e⟩ := map_some hh
  subst e
  refine h.run G hd Q fun p xs H' s1 d1 n1 p1 => ?_
  obtain ⟨nT, nH⟩ := ov_free n1
  rw [upd_ov nT]
  exact q _ _ (s1.trans (same_new nH)) (dis_upd d1 nT) (.lst (SqL.of upd_same) (dpa_mono (same_new nH) p1))
theorem ea_nil : TAm K tNil mNil := ⟨fun {H0 T0 σ ρ H T ds} G h Q q => by cases h; exact q [] H (Same.refl H) G.dis .nil⟩
theorem ea_cons {tr : TA} {mr : En → Option (List D)} (ha : ET K ta ma) (hr : TAm K tr mr) : TAm K (tCons ta tr) (mCons ma mr) := by
  refine ⟨fun {H0 T0 σ ρ H T ds} G h Q q => ?_⟩
  obtain ⟨x, hx, h⟩ := bind_some h
  obtain ⟨y, hy, e⟩ := map_some h
  subst e
  refine ha.run G hx _ fun v H1 s1 d1 p1 => ?_
  exact hr.run (G.mono s1 d1) hy _ fun vs H2 s2 d2 p2 => q _ H2 (s1.trans s2) d2 (.cons (dp_mono s2 p1) p2)
theorem ev_tup {t : TA} {m : En → Option (List D)} (ha : TAm K t m) : ET K (tTup t) (mTup m) := by
  refine ⟨fun {H0 T0 σ ρ H T d} G h Q q => ?_⟩
  obtain ⟨x, hx, h⟩ := bind_some h
  obtain ⟨y, hy, e⟩ := map_some h
  subst e
  obtain ⟨rfl, hz⟩ := sized_some hy
  refine ha.run G hx _ fun vs H1 s1 d1 p1 => ?_
  refine ⟨cap_line (by rw [dpa_len p1]; exact hz), fun p np => ?_⟩
  obtain ⟨nT, nH⟩ := ov_free np
  rw [upd_ov nT]
  exact q _ _ (s1.trans (same_new nH)) (dis_upd d1 nT) (.tup (SqT.of upd_same) (dpa_mono (same_new nH) p1))
theorem fl_lst {t : TA} {m : En → Option (List D)} (ha : TAm K t m) : FL K (tLst t) (mLst m) := by
  refine ⟨fun {H0 T0 σ ρ H T d} G h Q q => ?_⟩
  obtain ⟨x, hx, h⟩ := bind_some h
  obtain ⟨rfl, hz⟩ := sized_some h
  refine ha.run G hx _ fun vs H1 s1 d1 p1 => ?_
  exact ⟨cap_line (by rw [dpa_len p1]; exact hz), fun p np => q p vs H1 s1 d1 np p1⟩
theorem ev_cb {rc : List V → Hp → VK → Prop} {fc : List D → Option D} {t : TA} {m : En → Option (List D)} (hc : CD K rc fc) (ha : TAm K t m) : ET K (tCB rc t) (mCall fc m) := by
  refine ⟨fun {H0 T0 σ ρ H T d} G h Q q => ?_⟩
  obtain ⟨x, hx, h⟩ := bind_some h
  refine ha.run G hx _ fun vs H1 s1 d1 p1 => ?_
  exact hc.run d1 p1 h Q fun w H3 s3 d3 p3 => q w H3 (s1.trans s3) d3 p3
theorem fl_cb {rc : List V → Hp → VK → Prop} {fc : List D → Option (List D)} {t : TA} {m : En → Option (List D)} (hc : CL K rc fc) (ha : TAm K t m) : FL K (tCB rc t) (mCallL fc m) := by
  refine ⟨fun {H0 T0 σ ρ H T d} G h Q q => ?_⟩
  obtain ⟨x, hx, h⟩ := bind_some h
  refine ha.run G hx _ fun vs H1 s1 d1 p1 => ?_
  exact hc.run d1 p1 h Q fun p xs H3 s3 d3 n3 p3 => q p xs H3 (s1.trans s3) d3 n3 p3
theorem ev_call {n : Nat} {mf : List D → Option D} {t : TA} {m : En → Option (List D)} {E : XK} (ha : TAm K t m) : ET K (tCall (spM K n mf) [] E t) (mCall (fun ds => if ds.length = n then mf ds else none) m) := by
  refine ⟨fun {H0 T0 σ ρ H T d} G h Q q => ?_⟩
  obtain ⟨x, hx, h⟩ := bind_some h
  refine ha.run G hx _ fun vs H1 s1 d1 p1 => ?_
  split at h
  · rename_i hn
    rw [List.append_nil]
    exact ⟨x, d, H1, T, p1, hn, h, rfl, d1, fun w H3 s3 d3 p3 => q w H3 (s1.trans s3) d3 p3⟩
  · cases h

/-! ### tests -/
variable {t u : TT} {m1 m2 : En → Option Bool}
theorem et_test (h : ET K ta ma) : TTm K (tTest ta) (mTest ma) := by
  refine ⟨fun {H0 T0 σ ρ H T b} G hh Q q => ?_⟩
  obtain ⟨x, hx, hb⟩ := bind_some hh
  obtain rfl := isB_some hb
  exact h.run G hx _ fun v H1 s1 d1 p1 => ⟨b, dp_bool p1, q H1 s1 d1⟩
theorem et_B (h : ET K ta ma) : TTm K (tB ta) (mTest ma) := by
  refine ⟨fun {H0 T0 σ ρ H T b} G hh Q q => ?_⟩
  obtain ⟨x, hx, hb⟩ := bind_some hh
  obtain rfl := isB_some hb
  exact h.run G hx _ fun v H1 s1 d1 p1 => ⟨b, dp_bool p1, q H1 s1 d1⟩
theorem et_and (h1 : TTm K t m1) (h2 : TTm K u m2) : TTm K (tAnd t u) (mAnd m1 m2) := by
  refine ⟨fun {H0 T0 σ ρ H T b} G hh Q q => ?_⟩
  obtain ⟨x, hx, hb⟩ := bind_some hh
  refine h1.run G hx _ fun H1 s1 d1 => ?_
  cases x with
  | true =>
    rw [if_pos rfl] at hb ⊢
    exact h2.run (G.mono s1 d1) hb _ fun H2 s2 d2 => q H2 (s1.trans s2) d2
  | false =>
    rw [if_neg Bool.false_ne_true] at hb ⊢
    cases hb
    exact q H1 s1 d1
theorem et_or (h1 : TTm K t m1) (h2 : TTm K u m2) : TTm K (tOr t u) (mOr m1 m2) := by
  refine ⟨fun {H0 T0 σ ρ H T b} G hh Q q => ?_⟩
  obtain ⟨x, hx, hb⟩ := bind_some hh
  refine h1.run G hx _ fun H1 s1 d1 => ?_
  cases x with
  | true =>
    rw [if_pos rfl] at hb ⊢
    cases hb
    exact q H1 s1 d1
  | false =>
    rw [if_neg Bool.false_ne_true] at hb ⊢
    exact h2.run (G.mono s1 d1) hb _ fun H2 s2 d2 => q H2 (s1.trans s2) d2
theorem et_not (h1 : TTm K t m1) : TTm K (tNot t) (mNot m1) := by
  refine ⟨fun {H0 T0 σ ρ H T b} G hh Q q => ?_⟩
  obtain ⟨x, hx, hb⟩ := map_some hh
  subst hb
  exact h1.run G hx _ fun H1 s1 d1 => q H1 s1 d1
theorem ev_andV (ha : ET K ta ma) (hb : ET K tb mb) : ET K (tAndV ta tb) (mAndV ma mb) := by
  refine ⟨fun {H0 T0 σ ρ H T d} G h Q q => ?_⟩
  obtain ⟨x, hx, h1⟩ := bind_some h
  obtain ⟨k, hk, h2⟩ := bind_some h1
  clear h h1
  rename _ => h
  obtain rfl := isB_some hk
  refine ha.run G hx _ fun v H1 s1 d1 p1 => ⟨k, dp_bool p1, ?_⟩
  cases k with
  | true =>
    rw [if_pos rfl] at h ⊢
    exact hb.run (G.mono s1 d1) h _ fun u H2 s2 d2 p2 => q u H2 (s1.trans s2) d2 p2
  | false =>
    rw [if_neg Bool.false_ne_true] at h ⊢
    cases h
    exact q _ H1 s1 d1 (.bl false)
theorem ev_orV (ha : ET K ta ma) (hb : ET K tb mb) : ET K (tOrV ta tb) (mOrV ma mb) := by
  refine ⟨fun {H0 T0 σ ρ H T d} G h Q q => ?_⟩
  obtain ⟨x, hx, h1⟩ := bind_some h
  obtain ⟨k, hk, h2⟩ := bind_some h1
  clear h h1
  rename _ => h
  obtain rfl := isB_some hk
  refine ha.run G hx _ fun v H1 s1 d1 p1 => ⟨k, dp_bool p1, ?_⟩
  cases k with
  | true =>
    rw [if_pos rfl] at h ⊢
    cases h
    exact q _ H1 s1 d1 (.bl true)
  | false =>
    rw [if_neg Bool.false_ne_true] at h ⊢
    exact hb.run (G.mono s1 d1) h _ fun u H2 s2 d2 p2 => q u H2 (s1.trans s2) d2 p2
theorem ev_notV (ha : ET K ta ma) : ET K (tNotV ta) (mNotV ma) := by
  refine ⟨fun {H0 T0 σ ρ H T d} G h Q q => ?_⟩
  obtain ⟨x, hx, h1⟩ := bind_some h
  obtain ⟨k, hk, h2⟩ := map_some h1
  clear h h1
  subst h2
  obtain rfl := isB_some hk
  exact ha.run G hx _ fun v H1 s1 d1 p1 => ⟨k, dp_bool p1, q _ H1 s1 d1 (.bl _)⟩
theorem ev_if (hc : TTm K t m1) (ha : ET K ta ma) (hb : ET K tb mb) : ET K (tIf t ta tb) (mIfE m1 ma mb) := by
  refine ⟨fun {H0 T0 σ ρ H T d} G h Q q => ?_⟩
  obtain ⟨x, hx, h⟩ := bind_some h
  refine hc.run G hx _ fun H1 s1 d1 => ?_
  cases x with
  | true =>
    rw [if_pos rfl] at h ⊢
    exact ha.run (G.mono s1 d1) h _ fun u H2 s2 d2 p2 => q u H2 (s1.trans s2) d2 p2
  | false =>
    rw [if_neg Bool.false_ne_true] at h ⊢
    exact hb.run (G.mono s1 d1) h _ fun u H2 s2 d2 p2 => q u H2 (s1.trans s2) d2 p2
end
end DD

set_option Elab.async false
set_option linter.all false
set_option maxRecDepth 100000
set_option maxHeartbeats 4000000
namespace DD
open PySem PySem.Spec PyProof.Rows L2

theorem tuple_mul1 (l : Addr) (items : Array Value) (n : Nat) (dd : Option Addr) (sl : Array (Option Value)) (x : Int) (u : Tok) (c0 : (decide (x < -(2 ^ 63)) || decide (x ≥ 2 ^ 63)) = false) (c1 : (items.isEmpty || x == 1) = true) :
    Meets (Builtin.«tuple.__mul__» ⟨[.ref l, .int x u], []⟩) (fun _ R s => s.heap.get? l = some { cls := .type "tuple", dict := dd, data := .seq items n, slots := sl } ∧
      R (.ok (.ret (Value.ref l))) s) :=
  .of_wp fun prog w A R s h => by
    obtain ⟨hp, g, d, tk, os⟩ := s
    obtain ⟨hl, h⟩ := h
    have f1 := AutoSeq1.idx_int
    wp_walk using wpAny_loadPart' hl
    repeat (first
      | (refine wpAny_ite_false (decide_eq_false (by rw [c0]; exact Bool.false_ne_true)) ?_; wp_walk using wpAny_loadPart' hl)
      | (refine wpAny_ite_true (decide_eq_true c1) ?_; wp_walk using wpAny_loadPart' hl))
    exact ⟨_, rfl, h⟩
theorem tuple_mul0 (l : Addr) (items : Array Value) (n : Nat) (dd : Option Addr) (sl : Array (Option Value)) (x : Int) (u : Tok) (c0 : (decide (x < -(2 ^ 63)) || decide (x ≥ 2 ^ 63)) = false) (c1 : (items.isEmpty || x == 1) = false) (c2 : (decide (x ≤ 0) || items.isEmpty) = true) :
    Meets (Builtin.«tuple.__mul__» ⟨[.ref l, .int x u], []⟩) (fun _ R s => s.heap.get? l = some { cls := .type "tuple", dict := dd, data := .seq items n, slots := sl } ∧
      R (.ok (.ret (Value.ref s.heap.objs.size))) { s with heap := s.heap.push { cls := Value.type "tuple", data := Data.seq #[] }, toks := s.toks }) :=
  .of_wp fun prog w A R s h => by
    obtain ⟨hp, g, d, tk, os⟩ := s
    obtain ⟨hl, h⟩ := h
    have f1 := AutoSeq1.idx_int
    wp_walk using wpAny_loadPart' hl
    repeat (first
      | (refine wpAny_ite_false (decide_eq_false (by rw [c0]; exact Bool.false_ne_true)) ?_; wp_walk using wpAny_loadPart' hl)
      | (refine wpAny_ite_false (decide_eq_false (by rw [c1]; exact Bool.false_ne_true)) ?_; wp_walk using wpAny_loadPart' hl)
      | (refine wpAny_ite_true (decide_eq_true c2) ?_; wp_walk using wpAny_loadPart' hl))
    exact ⟨_, rfl, h⟩

section
variable {X : Cx}
def rRep0 (K : PySem.W.Frag) : R2 := fun x y H Q => ∃ l k xs, x = .ref l ∧ y = .int k ∧ SqT K H l xs ∧ xs ≠ [] ∧ k ≤ 1 ∧ -1000 ≤ k ∧ (k = 1 → Q (.ref l) H) ∧ (k ≤ 0 → ∀ p, H p = none → Q (.ref p) (upd H p (.tup [])))
theorem op_rep0 : OpR X (binaryOp .Mult) (rRep0 X.K) := by
  intro pins s σ H x y v u Q I rx ry h
  obtain ⟨l, k, xs, rfl, rfl, hT, hne, h1, h2, q1, q0⟩ := h
  cases rx
  obtain ⟨t, rfl⟩ := ry
  obtain ⟨its, r, ⟨⟨cls, dd, data, sl⟩, ho, hc, n, hd⟩, hs⟩ := I.tuple hT
  simp only at hc hd
  subst hc hd
  have hle : its.length = xs.length := r.length.symm
  have hn : its ≠ [] := fun e => hne (by
    rw [e] at hle
    exact List.eq_nil_of_length_eq_zero hle.symm)
  have hi : its.toArray.isEmpty = false := by
    cases its with
    | nil => exact absurd rfl hn
    | cons a b => rfl
  have c0 : (decide (k < -(2 ^ 63)) || decide (k ≥ 2 ^ 63)) = false := by
    rw [decide_eq_false (by omega), decide_eq_false (by omega)] <;> rfl
  by_cases hk : k = 1
  · have c1 : (its.toArray.isEmpty || k == 1) = true := by
      rw [hi, Bool.false_or]
      exact beq_iff_eq.mpr hk
    refine wpAny_binaryOp_repeat_ref (T := "tuple") (U := "int") (by decide) ⟨_, ho, rfl⟩ (fun s' => typeIs_int s' k t) noFill_tuple_mul F.fills_int_mul F.slot_int_rmul repeat_tuple F.slot_int_index.lookup
      (call_meets F.slot_int_rmul (typeIs_int s k t) F.entry_int_rmul (F.args_int_rmul_2 _ _) (int_rmul_tuple k t l its.toArray n dd sl)
        ⟨ho, rfl, ⟨_, ho, rfl⟩, call_meets F.slot_tuple_mul ⟨_, ho, rfl⟩ F.entry_tuple_mul (F.args_tuple_mul_2 _ _) (tuple_mul1 l its.toArray n dd sl k t c0 c1) ⟨ho, ?_⟩⟩)
    exact ⟨.ref l, H, I, rfl, q1 hk⟩
  · have c1 : (its.toArray.isEmpty || k == 1) = false := by
      rw [hi, Bool.false_or]
      exact beq_eq_false_iff_ne.mpr hk
    have c2 : (decide (k ≤ 0) || its.toArray.isEmpty) = true := by
      rw [decide_eq_true (by omega)]
      rfl
    refine wpAny_binaryOp_repeat_ref (T := "tuple") (U := "int") (by decide) ⟨_, ho, rfl⟩ (fun s' => typeIs_int s' k t) noFill_tuple_mul F.fills_int_mul F.slot_int_rmul repeat_tuple F.slot_int_index.lookup
      (call_meets F.slot_int_rmul (typeIs_int s k t) F.entry_int_rmul (F.args_int_rmul_2 _ _) (int_rmul_tuple k t l its.toArray n dd sl)
        ⟨ho, rfl, ⟨_, ho, rfl⟩, call_meets F.slot_tuple_mul ⟨_, ho, rfl⟩ F.entry_tuple_mul (F.args_tuple_mul_2 _ _) (tuple_mul0 l its.toArray n dd sl k t c0 c1 c2) ⟨ho, ?_⟩⟩)
    refine ⟨.ref s.heap.objs.size, _, I.laid (t' := s.toks) (o := .tup []) (fun b ob q => Heap.get?_push_of_some _ q) (Nat.le_refl _) ?_, rfl, q0 (by omega) _ (I.hok.fresh (Nat.le_refl _))⟩
    exact ⟨Nat.zero_le _, [], .nil, IsTup.new _ _⟩
end

/-! ### operations on data -/
section
variable {K : PySem.W.Frag} {H : Hp} {T : Ov} {x y v : V} {a b d : D}
theorem dp_int {i : Int} (h : Dp K H v (.int i)) : v = .int i := by cases h; rfl
theorem dp_str {z : Str} (h : Dp K H v (.str z)) : v = .str z := by cases h; rfl
theorem dp_non (h : Dp K H v .none) : v = .non := by cases h; rfl
theorem dp_tup {ds : List D} (h : Dp K H v (.tuple ds)) : ∃ p xs, v = .ref p ∧ SqT K H p xs ∧ DpAll K H xs ds := by cases h with | tup a b => exact ⟨_, _, rfl, a, b⟩
theorem dp_lst {ds : List D} (h : Dp K H v (.list ds)) : ∃ p xs, v = .ref p ∧ SqL K H p xs ∧ DpAll K H xs ds := by cases h with | lst a b => exact ⟨_, _, rfl, a, b⟩
theorem sqt_ov {p : Addr} {xs : List V} (dis : Dis H T) (h : SqT K H p xs) : SqT K (ov H T) p xs := Same.sqt (same_ov dis) h
theorem sql_ov {p : Addr} {xs : List V} (dis : Dis H T) (h : SqL K H p xs) : SqL K (ov H T) p xs := (same_ov dis).seq h
theorem dp_ov (dis : Dis H T) (h : Dp K H v d) : Dp K (ov H T) v d := dp_mono (same_ov dis) h
/-- a new tuple -/
theorem tup_new {Q : VK} {p : Addr} {xs : List V} {ds : List D} {H1 : Hp} (s : Same H H1) (dis : Dis H1 T) (np : ov H1 T p = none) (g : DpAll K H1 xs ds)
    (q : ∀ v H', Same H H' → Dis H' T → Dp K H' v (.tuple ds) → Q v (ov H' T)) : Q (.ref p) (upd (ov H1 T) p (.tup xs)) := by
  obtain ⟨nT, nH⟩ := ov_free np
  rw [upd_ov nT]
  exact q _ _ (s.trans (same_new nH)) (dis_upd dis nT) (.tup (SqT.of upd_same) (dpa_mono (same_new nH) g))

def inW (i : Int) : Bool := decide (-(2 ^ 64) < i) && decide (i < 2 ^ 64)
theorem inW_of {i : Int} (h : inW i = true) : -(2 ^ 64) < i ∧ i < 2 ^ 64 := by
  unfold inW at h
  rw [Bool.and_eq_true] at h
  exact ⟨of_decide_eq_true h.1, of_decide_eq_true h.2⟩
def dAdd : D → D → Option D
  | .int i, .int j => some (.int (i + j))
  | .str p, .str q => if p.length + q.length ≤ cap then some (.str (p ++ q)) else none
  | .tuple p, .tuple q => if p.length + q.length ≤ cap then some (.tuple (p ++ q)) else none
  | _, _ => none
def dSub : D → D → Option D
  | .int i, .int j => some (.int (i - j))
  | _, _ => none
def dMul : D → D → Option D
  | .int i, .int j => if (inW i || inW j) = true then some (.int (i * j)) else none
  | .tuple p, .int k => if p ≠ [] ∧ p.length ≤ 1000 ∧ -1000 ≤ k ∧ k ≤ 1000 then some (.tuple (List.replicate k.toNat p).flatten) else none
  | _, _ => none
def dFdiv : D → D → Option D
  | .int i, .int j => if 0 < j ∧ j.natAbs.log2 < 9000 then some (.int (i / j)) else none
  | _, _ => none
def dMod : D → D → Option D
  | .int i, .int j => if 0 < j then some (.int (i % j)) else none
  | _, _ => none
def dPow : D → D → Option D
  | .int i, .int j => if 0 ≤ j ∧ j ≤ 1000000 ∧ i.natAbs < 2 ^ 64 then some (.int (i ^ j.toNat)) else none
  | _, _ => none
def dNeg : D → Option D
  | .int i => some (.int (-i))
  | _ => none
def dCmp (p : Int → Int → Bool) : D → D → Option D
  | .int i, .int j => some (.bool (p i j))
  | _, _ => none
def dEq (a b : D) : Option D := if (SeqAt.shaped a && SeqAt.shaped b) = true then some (.bool (PyData.eqv a b)) else none
def dNe (a b : D) : Option D := if (SeqAt.shaped a && SeqAt.shaped b) = true then some (.bool (!PyData.eqv a b)) else none
def dIs : D → D → Option D
  | .none, .none => some (.bool true)
  | .bool _, .none => some (.bool false)
  | .int _, .none => some (.bool false)
  | .str _, .none => some (.bool false)
  | .tuple _, .none => some (.bool false)
  | .list _, .none => some (.bool false)
  | .bool p, .bool q => some (.bool (decide (p = q)))
  | _, _ => none
def dIsNot (a b : D) : Option D := (dIs a b).bind fun z => (isB z).map fun c => .bool (!c)

def rAddA (K : PySem.W.Frag) : R2 := fun x y H Q => rI0 (fun i j => .int (i + j)) x y H Q ∨ (∃ i j, x = V.str i ∧ y = .str j ∧ i.length + j.length ≤ sizeLine ∧ Q (.str (i ++ j)) H) ∨ rCatA K x y H Q
theorem op_addA {X : Cx} : OpR X (binaryOp .Add) (rAddA X.K) := op_add.or (op_add_str.or op_catA)
theorem rd_add : RD K (rAddA K) dAdd := by
  refine ⟨fun {H T x y a b d} dis ha hb h Q q => ?_⟩
  unfold dAdd at h
  split at h
  · cases h
    cases dp_int ha
    cases dp_int hb
    exact .inl ⟨_, _, rfl, rfl, q _ H (Same.refl H) dis (.int _)⟩
  · split at h
    · rename_i hz
      cases h
      cases dp_str ha
      cases dp_str hb
      exact .inr (.inl ⟨_, _, rfl, rfl, cap_line hz, q _ H (Same.refl H) dis (.str _)⟩)
    · cases h
  · split at h
    · rename_i p q' hz
      cases h
      obtain ⟨p1, xs, rfl, hx, gx⟩ := dp_tup ha
      obtain ⟨p2, ys, rfl, hy, gy⟩ := dp_tup hb
      refine .inr (.inr ⟨p1, p2, xs, ys, rfl, rfl, sqt_ov dis hx, sqt_ov dis hy, cap_line (by rw [dpa_len gx, dpa_len gy]; exact hz), fun e => ?_, fun _ e => ?_, fun _ _ r nr => ?_⟩)
      · rw [(dpa_nil_iff gx).mpr e, List.nil_append] at q
        exact q _ H (Same.refl H) dis hb
      · rw [(dpa_nil_iff gy).mpr e, List.append_nil] at q
        exact q _ H (Same.refl H) dis ha
      · exact tup_new (Same.refl H) dis nr (dpa_append gx gy) q
    · cases h
  · cases h
theorem rd_I0 {g : Int → Int → V} {f : D → D → Option D} (e : ∀ i j, ∃ d, f (.int i) (.int j) = some d ∧ ∀ H, Dp K H (g i j) d) (o : ∀ a b d, f a b = some d → ∃ i j, a = .int i ∧ b = .int j) : RD K (rI0 g) f := by
  refine ⟨fun {H T x y a b d} dis ha hb h Q q => ?_⟩
  obtain ⟨i, j, rfl, rfl⟩ := o a b d h
  obtain ⟨d', h', g'⟩ := e i j
  rw [h] at h'
  cases h'
  cases dp_int ha
  cases dp_int hb
  exact ⟨i, j, rfl, rfl, q _ H (Same.refl H) dis (g' H)⟩
theorem rd_sub : RD K (rI0 fun i j => .int (i - j)) dSub := rd_I0 (fun i j => ⟨_, rfl, fun _ => .int _⟩) fun a b d h => by
  unfold dSub at h
  split at h
  · exact ⟨_, _, rfl, rfl⟩
  · cases h
theorem rd_cmp {p : Int → Int → Bool} : RD K (rI0 fun i j => .bl (p i j)) (dCmp p) := rd_I0 (fun i j => ⟨_, rfl, fun _ => .bl _⟩) fun a b d h => by
  unfold dCmp at h
  split at h
  · exact ⟨_, _, rfl, rfl⟩
  · cases h
theorem rd_lt : RD K (rI0 fun i j => .bl (decide (i < j))) (dCmp fun i j => decide (i < j)) := rd_cmp
theorem rd_le : RD K (rI0 fun i j => .bl (decide (i ≤ j))) (dCmp fun i j => decide (i ≤ j)) := rd_cmp
theorem rd_gt : RD K (rI0 fun i j => .bl (decide (j < i))) (dCmp fun i j => decide (j < i)) := rd_cmp
theorem rd_ge : RD K (rI0 fun i j => .bl (decide (j ≤ i))) (dCmp fun i j => decide (j ≤ i)) := rd_cmp
theorem rd_I {C : Int → Int → Prop} {g : Int → Int → V} {f : D → D → Option D} (o : ∀ a b d, f a b = some d → ∃ i j, a = .int i ∧ b = .int j ∧ C i j ∧ ∀ H, Dp K H (g i j) d) : RD K (rI C g) f := by
  refine ⟨fun {H T x y a b d} dis ha hb h Q q => ?_⟩
  obtain ⟨i, j, rfl, rfl, c, g'⟩ := o a b d h
  cases dp_int ha
  cases dp_int hb
  exact ⟨i, j, rfl, rfl, c, q _ H (Same.refl H) dis (g' H)⟩
theorem rd_fdiv : RD K (rI CDivW fun i j => .int (i / j)) dFdiv := rd_I fun a b d h => by
  unfold dFdiv at h
  split at h
  · split at h
    · rename_i c
      cases h
      exact ⟨_, _, rfl, rfl, c, fun _ => .int _⟩
    · cases h
  · cases h
theorem rd_mod : RD K (rI (fun _ j => 0 < j) fun i j => .int (i % j)) dMod := rd_I fun a b d h => by
  unfold dMod at h
  split at h
  · split at h
    · rename_i c
      cases h
      exact ⟨_, _, rfl, rfl, c, fun _ => .int _⟩
    · cases h
  · cases h
theorem rd_pow : RD K (rI CPow fun i j => .int (i ^ j.toNat)) dPow := rd_I fun a b d h => by
  unfold dPow at h
  split at h
  · split at h
    · rename_i c
      cases h
      exact ⟨_, _, rfl, rfl, c, fun _ => .int _⟩
    · cases h
  · cases h
theorem ud_neg : UD K (rU fun i => .int (-i)) dNeg := by
  refine ⟨fun {H T x a d} dis ha h Q q => ?_⟩
  unfold dNeg at h
  split at h
  · cases h
    cases dp_int ha
    exact ⟨_, rfl, q _ H (Same.refl H) dis (.int _)⟩
  · cases h
def rMulA (K : PySem.W.Frag) : R2 := fun x y H Q => rI CMul (fun i j => .int (i * j)) x y H Q ∨ rRepT K x y H Q ∨ rRep0 K x y H Q
theorem op_mulA {X : Cx} : OpR X (binaryOp .Mult) (rMulA X.K) := op_mul.or (op_repT.or op_rep0)
theorem rd_mul : RD K (rMulA K) dMul := by
  refine ⟨fun {H T x y a b d} dis ha hb h Q q => ?_⟩
  unfold dMul at h
  split at h
  · split at h
    · rename_i c
      cases h
      cases dp_int ha
      cases dp_int hb
      refine .inl ⟨_, _, rfl, rfl, ?_, q _ H (Same.refl H) dis (.int _)⟩
      rw [Bool.or_eq_true] at c
      exact c.elim (fun z => .inl (inW_of z)) fun z => .inr (inW_of z)
    · cases h
  · split at h
    · rename_i p k c
      cases h
      obtain ⟨p1, xs, rfl, hx, gx⟩ := dp_tup ha
      cases dp_int hb
      have ne : xs ≠ [] := fun e => c.1 ((dpa_nil_iff gx).mpr e)
      by_cases hk : 2 ≤ k
      · refine .inr (.inl ⟨p1, k, xs, rfl, rfl, sqt_ov dis hx, ne, hk, c.2.2.2, by rw [dpa_len gx]; exact c.2.1, fun r nr => ?_⟩)
        exact tup_new (Same.refl H) dis nr (dpa_rep gx _) q
      · refine .inr (.inr ⟨p1, k, xs, rfl, rfl, sqt_ov dis hx, ne, by omega, c.2.2.1, fun e => ?_, fun e r nr => ?_⟩)
        · have : (List.replicate k.toNat p).flatten = p := by
            subst e
            show (List.replicate 1 p).flatten = p
            simp
          rw [this] at q
          exact q _ H (Same.refl H) dis ha
        · have e0 : k.toNat = 0 := by omega
          rw [e0] at q
          exact tup_new (Same.refl H) dis nr .nil q
    · cases h
  · cases h
theorem rd_eq : RD K (rEqD K) dEq := by
  refine ⟨fun {H T x y a b d} dis ha hb h Q q => ?_⟩
  unfold dEq at h
  split at h
  · rename_i c
    rw [Bool.and_eq_true] at c
    cases h
    exact ⟨a, b, dp_ov dis ha, dp_ov dis hb, c.1, c.2, q _ H (Same.refl H) dis (.bl _)⟩
  · cases h
theorem rd_ne : RD K (rNeD K) dNe := by
  refine ⟨fun {H T x y a b d} dis ha hb h Q q => ?_⟩
  unfold dNe at h
  split at h
  · rename_i c
    rw [Bool.and_eq_true] at c
    cases h
    exact ⟨a, b, dp_ov dis ha, dp_ov dis hb, c.1, c.2, q _ H (Same.refl H) dis (.bl _)⟩
  · cases h
def rIsA : R2 := fun x y H Q => rIsN x y H Q ∨ rIsB x y H Q
def rNotA : R2 := fun x y H Q => rNotN x y H Q ∨ rNotB x y H Q
theorem op_isA {X : Cx} : OpR X (compareOp .Is) rIsA := op_isN1.or op_isBl
theorem op_notA {X : Cx} : OpR X (compareOp .IsNot) rNotA := op_notN1.or op_notBl
theorem dis_cases {a b d : D} (h : dIs a b = some d) : (b = .none ∧ ∃ c, d = .bool c ∧ ∀ H v, Dp K H v a → decide (v = .non) = c) ∨ ∃ p q, a = .bool p ∧ b = .bool q ∧ d = .bool (decide (p = q)) := by
  unfold dIs at h
  split at h <;> first
    | (cases h; exact .inl ⟨rfl, _, rfl, fun H v g => by cases g <;> simp⟩)
    | (cases h; exact .inr ⟨_, _, rfl, rfl, rfl⟩)
    | cases h
theorem rd_is : RD K rIsA dIs := by
  refine ⟨fun {H T x y a b d} dis ha hb h Q q => ?_⟩
  rcases dis_cases (K := K) h with ⟨rfl, c, rfl, g⟩ | ⟨p, q', rfl, rfl, rfl⟩
  · exact .inl ⟨dp_non hb, by rw [g H x ha]; exact q _ H (Same.refl H) dis (.bl _)⟩
  · exact .inr ⟨p, q', dp_bool ha, dp_bool hb, q _ H (Same.refl H) dis (.bl _)⟩
theorem rd_isnot : RD K rNotA dIsNot := by
  refine ⟨fun {H T x y a b d} dis ha hb h Q q => ?_⟩
  obtain ⟨z, hz, h⟩ := bind_some h
  obtain ⟨k, hk, h⟩ := map_some h
  subst h
  rcases dis_cases (K := K) hz with ⟨rfl, c, rfl, g⟩ | ⟨p, q', rfl, rfl, rfl⟩
  · cases isB_some hk
    exact .inl ⟨dp_non hb, by rw [g H x ha]; exact q _ H (Same.refl H) dis (.bl _)⟩
  · cases isB_some hk
    exact .inr ⟨p, q', dp_bool ha, dp_bool hb, q _ H (Same.refl H) dis (.bl _)⟩
end
end DD

set_option Elab.async false
set_option linter.all false
set_option maxRecDepth 100000
set_option maxHeartbeats 4000000
namespace DD
open PySem PySem.Spec PyProof.Rows L2
section
variable {K : PySem.W.Frag} {H : Hp} {T : Ov} {x y v : V} {a b d : D}

/-! ### len, all, any, max, min, tuple, list, sorted -/
def dLen : List D → Option D
  | [.str z] => if z.length ≤ cap then some (.int z.length) else none
  | [.list ds] => if ds.length ≤ cap then some (.int ds.length) else none
  | [.tuple ds] => if ds.length ≤ cap then some (.int ds.length) else none
  | _ => none
def rLenA (K : PySem.W.Frag) : List V → Hp → VK → Prop := fun xs H Q => ∃ x n, xs = [x] ∧ LenV K x H n ∧ Q (.int n) H
theorem cr_len {X : Cx} : CallR X (.builtin "len") (rLenA X.K) := call_len
theorem dpa_one {vs : List V} (h : DpAll K H vs [d]) : ∃ v, vs = [v] ∧ Dp K H v d := by
  cases h with
  | cons a b => cases b; exact ⟨_, rfl, a⟩
theorem dpa_two {vs : List V} (h : DpAll K H vs [a, b]) : ∃ u v, vs = [u, v] ∧ Dp K H u a ∧ Dp K H v b := by
  cases h with
  | cons p q =>
    obtain ⟨v, rfl, r⟩ := dpa_one q
    exact ⟨_, v, rfl, p, r⟩
theorem cd_len : CD K (rLenA K) dLen := by
  refine ⟨fun {H T vs ds d} dis h e Q q => ?_⟩
  unfold dLen at e
  split at e
  · split at e
    · rename_i z hz
      cases e
      obtain ⟨v, rfl, g⟩ := dpa_one h
      cases dp_str g
      exact ⟨_, _, rfl, ⟨cap_line hz, rfl⟩, q _ H (Same.refl H) dis (.int _)⟩
    · cases e
  · split at e
    · rename_i es hz
      cases e
      obtain ⟨v, rfl, g⟩ := dpa_one h
      obtain ⟨p, xs, rfl, hx, gx⟩ := dp_lst g
      exact ⟨_, _, rfl, .inl ⟨xs, sql_ov dis hx, rfl⟩, by rw [dpa_len gx]; exact q _ H (Same.refl H) dis (.int _)⟩
    · cases e
  · split at e
    · rename_i es hz
      cases e
      obtain ⟨v, rfl, g⟩ := dpa_one h
      obtain ⟨p, xs, rfl, hx, gx⟩ := dp_tup g
      exact ⟨_, _, rfl, .inr ⟨xs, sqt_ov dis hx, rfl⟩, by rw [dpa_len gx]; exact q _ H (Same.refl H) dis (.int _)⟩
    · cases e
  · cases e
/-- a list of truths -/
def bools : List D → Option (List Bool)
  | [] => some []
  | .bool b :: r => (bools r).map fun x => b :: x
  | _ => none
theorem bools_of : ∀ {ds : List D} {bs : List Bool}, bools ds = some bs → ∀ {vs : List V}, DpAll K H vs ds → vs = bs.map V.bl
  | [], bs, h, vs, g => by cases h; cases g; rfl
  | .bool b :: r, bs, h, vs, g => by
    obtain ⟨c, hc, e⟩ := map_some h
    subst e
    cases g with
    | cons p q => rw [List.map_cons, dp_bool p, bools_of hc q]
  | .none :: _, _, h, _, _ => by cases h
  | .int _ :: _, _, h, _, _ => by cases h
  | .str _ :: _, _, h, _, _ => by cases h
  | .list _ :: _, _, h, _, _ => by cases h
  | .tuple _ :: _, _, h, _, _ => by cases h
  | .dict _ :: _, _, h, _, _ => by cases h
def dAll : List D → Option D
  | [.list ds] => (bools ds).map fun bs => .bool (bs.all id)
  | _ => none
def dAny : List D → Option D
  | [.list ds] => (bools ds).map fun bs => .bool (bs.any id)
  | _ => none
theorem cd_all : CD K (rAll K) dAll := by
  refine ⟨fun {H T vs ds d} dis h e Q q => ?_⟩
  unfold dAll at e
  split at e
  · obtain ⟨bs, hb, e⟩ := map_some e
    subst e
    obtain ⟨v, rfl, g⟩ := dpa_one h
    obtain ⟨p, xs, rfl, hx, gx⟩ := dp_lst g
    rw [bools_of hb gx] at hx
    exact ⟨p, bs, rfl, sql_ov dis hx, q _ H (Same.refl H) dis (.bl _)⟩
  · cases e
theorem cd_any : CD K (rAny K) dAny := by
  refine ⟨fun {H T vs ds d} dis h e Q q => ?_⟩
  unfold dAny at e
  split at e
  · obtain ⟨bs, hb, e⟩ := map_some e
    subst e
    obtain ⟨v, rfl, g⟩ := dpa_one h
    obtain ⟨p, xs, rfl, hx, gx⟩ := dp_lst g
    rw [bools_of hb gx] at hx
    exact ⟨p, bs, rfl, sql_ov dis hx, q _ H (Same.refl H) dis (.bl _)⟩
  · cases e
def rMax2 : List V → Hp → VK → Prop := fun xs H Q => ∃ i j, xs = [.int i, .int j] ∧ Q (.int (if j > i then j else i)) H
def rMin2 : List V → Hp → VK → Prop := fun xs H Q => ∃ i j, xs = [.int i, .int j] ∧ Q (.int (if j < i then j else i)) H
theorem cr_max2 {X : Cx} (hc : X.calm = true) : CallR X (.builtin "max") rMax2 := call_max2 hc
theorem cr_min2 {X : Cx} (hc : X.calm = true) : CallR X (.builtin "min") rMin2 := call_min2 hc
def dMax2 : List D → Option D
  | [.int i, .int j] => some (.int (if j > i then j else i))
  | _ => none
def dMin2 : List D → Option D
  | [.int i, .int j] => some (.int (if j < i then j else i))
  | _ => none
theorem cd_max2 : CD K rMax2 dMax2 := by
  refine ⟨fun {H T vs ds d} dis h e Q q => ?_⟩
  unfold dMax2 at e
  split at e
  · cases e
    obtain ⟨u, v, rfl, g1, g2⟩ := dpa_two h
    cases dp_int g1
    cases dp_int g2
    exact ⟨_, _, rfl, q _ H (Same.refl H) dis (.int _)⟩
  · cases e
theorem cd_min2 : CD K rMin2 dMin2 := by
  refine ⟨fun {H T vs ds d} dis h e Q q => ?_⟩
  unfold dMin2 at e
  split at e
  · cases e
    obtain ⟨u, v, rfl, g1, g2⟩ := dpa_two h
    cases dp_int g1
    cases dp_int g2
    exact ⟨_, _, rfl, q _ H (Same.refl H) dis (.int _)⟩
  · cases e
def rTupOf (K : PySem.W.Frag) : List V → Hp → VK → Prop := fun xs H Q => ∃ p ys, xs = [.ref p] ∧ ((SqL K H p ys ∧ ∀ l, H l = none → Q (.ref l) (upd H l (.tup ys))) ∨ (SqT K H p ys ∧ Q (.ref p) H))
theorem cr_tupOf {X : Cx} : CallR X (.type "tuple") (rTupOf X.K) := call_tuple_of
def dTupOf : List D → Option D
  | [.list ds] => some (.tuple ds)
  | [.tuple ds] => some (.tuple ds)
  | _ => none
theorem cd_tupOf : CD K (rTupOf K) dTupOf := by
  refine ⟨fun {H T vs ds d} dis h e Q q => ?_⟩
  unfold dTupOf at e
  split at e
  · cases e
    obtain ⟨v, rfl, g⟩ := dpa_one h
    obtain ⟨p, xs, rfl, hx, gx⟩ := dp_lst g
    exact ⟨p, xs, rfl, .inl ⟨sql_ov dis hx, fun l nl => tup_new (Same.refl H) dis nl gx q⟩⟩
  · cases e
    obtain ⟨v, rfl, g⟩ := dpa_one h
    obtain ⟨p, xs, rfl, hx, gx⟩ := dp_tup g
    exact ⟨p, xs, rfl, .inr ⟨sqt_ov dis hx, q _ H (Same.refl H) dis g⟩⟩
  · cases e
def rLstOf (K : PySem.W.Frag) : List V → Hp → VK → Prop := fun xs H Q => ∃ p ys, xs = [.ref p] ∧ (SqL K H p ys ∨ SqT K H p ys) ∧ ∀ l, H l = none → Q (.ref l) (upd H l (.lst ys))
theorem cr_lstOf {X : Cx} : CallR X (.type "list") (rLstOf X.K) := call_list_of
def dLstOf : List D → Option (List D)
  | [.list ds] => some ds
  | [.tuple ds] => some ds
  | _ => none
theorem cl_lstOf : CL K (rLstOf K) dLstOf := by
  refine ⟨fun {H T vs ds es} dis h e Q q => ?_⟩
  unfold dLstOf at e
  split at e
  · cases e
    obtain ⟨v, rfl, g⟩ := dpa_one h
    obtain ⟨p, xs, rfl, hx, gx⟩ := dp_lst g
    exact ⟨p, xs, rfl, .inl (sql_ov dis hx), fun l nl => q l xs H (Same.refl H) dis nl gx⟩
  · cases e
    obtain ⟨v, rfl, g⟩ := dpa_one h
    obtain ⟨p, xs, rfl, hx, gx⟩ := dp_tup g
    exact ⟨p, xs, rfl, .inr (sqt_ov dis hx), fun l nl => q l xs H (Same.refl H) dis nl gx⟩
  · cases e

/-! ### isinstance -/
def tyName : D → String
  | .none => "NoneType"
  | .bool _ => "bool"
  | .int _ => "int"
  | .str _ => "str"
  | .list _ => "list"
  | .tuple _ => "tuple"
  | .dict _ => "dict"
theorem tyX_of (dis : Dis H T) (h : Dp K H v d) : TyX K (ov H T) v (.type (tyName d)) := by
  cases h with
  | non => exact .base .non
  | bl b => exact .base (.bl b)
  | int i => exact .base (.int i)
  | str z => exact .base (.str z)
  | lst hs _ =>
    rcases sql_ov dis hs with (h | ⟨o, h⟩) | ⟨o, its, n, hk, hc, _⟩
    · exact .base (.lst h)
    · exact .base (.frz h)
    · exact .kList hk hc
  | tup hs _ =>
    rcases sqt_ov dis hs with (h | ⟨o, h⟩) | ⟨o, its, n, hk, hc, _⟩
    · exact .base (.tup h)
    · exact .fTuple h
    · exact .kTuple hk hc
/-- whether a thing is of a built-in class -/
def isName (c t : String) : Bool := t == c || (c == "int" && t == "bool")
def isIt (c : String) (d : D) : Bool := isName c (tyName d)
def dIsi (c : String) (d : D) : Option D := some (.bool (isIt c d))
def tyNames : List String := ["NoneType", "bool", "int", "str", "list", "tuple", "dict"]
theorem ty_in (d : D) : tyName d ∈ tyNames := by cases d <;> simp [tyName, tyNames]
def ClsOk (c : String) : Prop := ∀ d : D, kitB (tyName d) c = some (isIt c d)
theorem cls_by {c : String} (h : ∀ t ∈ tyNames, kitB t c = some (isName c t)) : ClsOk c := fun d => h _ (ty_in d)
theorem cls_int : ClsOk "int" := cls_by (by decide +kernel)
theorem cls_bool : ClsOk "bool" := cls_by (by decide +kernel)
theorem cls_str : ClsOk "str" := cls_by (by decide +kernel)
theorem cls_list : ClsOk "list" := cls_by (by decide +kernel)
theorem cls_tuple : ClsOk "tuple" := cls_by (by decide +kernel)
theorem ev_isi {c : String} {ta : TE} {ma : En → Option D} (hc : ClsOk c) (ha : ET K ta ma) : ET K (tCB (rIsi K) (tCons ta (tCons (tC (.ty c)) tNil))) (mUn (dIsi c) ma) := by
  refine ⟨fun {H0 T0 σ ρ H T d} G h Q q => ?_⟩
  obtain ⟨x, hx, h⟩ := bind_some h
  cases h
  refine ha.run G hx _ fun v H1 s1 d1 p1 => ?_
  exact ⟨v, .ty c, _, _, _, rfl, .ty c, tyX_of d1 p1, kit_ty (hc x), q _ H1 s1 d1 (.bl _)⟩

/-! ### truth of a value -/
def tru : D → Option Bool
  | .none => some false
  | .bool b => some b
  | .int i => some (i != 0)
  | .str z => if z.length ≤ cap then some ((z.length : Int) != 0) else none
  | .list ds => some (!ds.isEmpty)
  | .tuple ds => some (!ds.isEmpty)
  | .dict _ => none
def mTru (a : En → Option D) : En → Option Bool := fun ρ => (a ρ).bind tru
theorem emp_of {xs : List V} {ds : List D} (h : DpAll K H xs ds) : xs.isEmpty = ds.isEmpty := by cases h <;> rfl
theorem et_tru {ta : TE} {ma : En → Option D} (ha : ET K ta ma) : TTm K (tTru K ta) (mTru ma) := by
  refine ⟨fun {H0 T0 σ ρ H T b} G h Q q => ?_⟩
  obtain ⟨x, hx, h⟩ := bind_some h
  refine ha.run G hx _ fun v H1 s1 d1 p1 => ⟨b, ?_, q H1 s1 d1⟩
  unfold tru at h
  split at h
  · cases h; cases dp_non p1; rfl
  · cases h; cases dp_bool p1; rfl
  · cases h; cases dp_int p1; rfl
  · split at h
    · rename_i hz
      cases h; cases dp_str p1; exact ⟨cap_line hz, rfl⟩
    · cases h
  · cases h
    obtain ⟨p, xs, rfl, hs, g⟩ := dp_lst p1
    exact .inl ⟨xs, sql_ov d1 hs, by rw [emp_of g]⟩
  · cases h
    obtain ⟨p, xs, rfl, hs, g⟩ := dp_tup p1
    exact .inr (.inl ⟨xs, sqt_ov d1 hs, by rw [emp_of g]⟩)
  · cases h

/-! ### places, slices -/
def dIx : D → D → Option D
  | .list ds, .int i => atI ds i
  | .tuple ds, .int i => atI ds i
  | .str z, .int i => if z.length ≤ cap then (atI z.cps.toList i).map fun c => .str ⟨#[c]⟩ else none
  | _, _ => none
theorem atI_dp {xs : List V} {ds : List D} (h : DpAll K H xs ds) {i : Int} (e : atI ds i = some d) : ∃ v, atI xs i = some v ∧ Dp K H v d := by
  unfold atI at e ⊢
  rw [dpa_len h]
  obtain ⟨j, hj, e⟩ := bind_some e
  rw [hj]
  exact dpa_get h e
theorem rd_ix : RD K (rIx K) dIx := by
  refine ⟨fun {H T x y a b d} dis ha hb h Q q => ?_⟩
  unfold dIx at h
  split at h
  · obtain ⟨p, xs, rfl, hs, g⟩ := dp_lst ha
    cases dp_int hb
    obtain ⟨v, hv, gv⟩ := atI_dp g h
    exact .inl ⟨p, xs, _, v, rfl, rfl, sql_ov dis hs, hv, q v H (Same.refl H) dis gv⟩
  · obtain ⟨p, xs, rfl, hs, g⟩ := dp_tup ha
    cases dp_int hb
    obtain ⟨v, hv, gv⟩ := atI_dp g h
    exact .inr (.inl ⟨p, xs, _, v, rfl, rfl, sqt_ov dis hs, hv, q v H (Same.refl H) dis gv⟩)
  · split at h
    · rename_i z i hz
      obtain ⟨c, hc, h⟩ := map_some h
      subst h
      cases dp_str ha
      cases dp_int hb
      exact .inr (.inr ⟨z, i, c, rfl, rfl, cap_line hz, hc, q _ H (Same.refl H) dis (.str _)⟩)
    · cases h
  · cases h
/-- a slice's parts -/
structure PAm (K : PySem.W.Frag) (t : TO) (m : En → Option (Option Int)) : Prop where
  run : ∀ {H0 : Hp} {T0 : Ov} {σ : L2.St} {ρ : En} {H : Hp} {T : Ov} {o : Option Int}, Good K H0 T0 σ ρ H T → m ρ = some o →
    ∀ Q : Option Int → Hp → Prop, (∀ H', Same H H' → Dis H' T → Q o (ov H' T)) → t σ (ov H T) Q
def mNoPart : En → Option (Option Int) := fun _ => some none
def isI : D → Option Int
  | .int i => some i
  | _ => none
def mPart (a : En → Option D) : En → Option (Option Int) := fun ρ => (a ρ).bind fun x => (isI x).map some
theorem po_no : PAm K tNoPart mNoPart := ⟨fun {H0 T0 σ ρ H T o} G h Q q => by cases h; exact q H (Same.refl H) G.dis⟩
theorem po_part {ta : TE} {ma : En → Option D} (ha : ET K ta ma) : PAm K (tPart ta) (mPart ma) := by
  refine ⟨fun {H0 T0 σ ρ H T o} G h Q q => ?_⟩
  obtain ⟨x, hx, h⟩ := bind_some h
  obtain ⟨i, hi, h⟩ := map_some h
  subst h
  have e : x = .int i := by
    unfold isI at hi
    split at hi
    · cases hi; rfl
    · cases hi
  subst e
  exact ha.run G hx _ fun v H1 s1 d1 p1 => ⟨i, dp_int p1, q H1 s1 d1⟩
def cutD (ds : List D) (lo hi : Option Int) : List D := (ds.drop (HT.sIx ds.length 0 lo)).take (HT.sIx ds.length ds.length hi - HT.sIx ds.length 0 lo)
theorem dpa_cut {xs : List V} {ds : List D} (h : DpAll K H xs ds) (lo hi : Option Int) : DpAll K H (cutV xs lo hi) (cutD ds lo hi) := by
  unfold cutV cutD
  rw [dpa_len h]
  exact dpa_take _ (dpa_drop _ h)
def dSl (d : D) (lo hi : Option Int) : Option D := match d with
  | .tuple ds => some (.tuple (cutD ds lo hi))
  | .str z => if z.length ≤ cap then some (.str (cutS z lo hi)) else none
  | _ => none
def mSl (a : En → Option D) (l h : En → Option (Option Int)) : En → Option D := fun ρ => (a ρ).bind fun x => (l ρ).bind fun lo => (h ρ).bind fun hi => dSl x lo hi
def rSlX (K : PySem.W.Frag) : V → Option Int → Option Int → Hp → VK → Prop := fun x lo hi H Q => rSlA K x lo hi H Q ∨ rSlS x lo hi H Q
theorem sl_any {X : Cx} : SlR X (rSlX X.K) := SlR.or sl_tupA sl_str
theorem ev_sl {ta : TE} {tl th : TO} {ma : En → Option D} {ml mh : En → Option (Option Int)} (ha : ET K ta ma) (hl : PAm K tl ml) (hh : PAm K th mh) : ET K (tSl (rSlX K) ta tl th) (mSl ma ml mh) := by
  refine ⟨fun {H0 T0 σ ρ H T d} G h Q q => ?_⟩
  obtain ⟨x, hx, h1⟩ := bind_some h
  obtain ⟨lo, hlo, h2⟩ := bind_some h1
  obtain ⟨hi, hhi, h3⟩ := bind_some h2
  refine ha.run G hx _ fun v H1 s1 d1 p1 => ?_
  refine hl.run (G.mono s1 d1) hlo _ fun H2 s2 d2 => ?_
  refine hh.run (G.mono (s1.trans s2) d2) hhi _ fun H3 s3 d3 => ?_
  have p3 := dp_mono (s2.trans s3) p1
  have s13 := (s1.trans s2).trans s3
  unfold dSl at h3
  split at h3
  · cases h3
    obtain ⟨p, xs, rfl, hs, g⟩ := dp_tup p3
    refine .inl ⟨p, xs, rfl, sqt_ov d3 hs, fun hw => ?_, fun hw r nr => ?_⟩
    · refine q _ H3 s13 d3 ?_
      have := dpa_cut g lo hi
      unfold cutV at this
      rw [hw.1, hw.2, List.drop_zero, Nat.sub_zero, List.take_length] at this
      exact .tup hs this
    · exact tup_new (Same.refl H3) d3 nr (dpa_cut g lo hi) fun u H4 s4 d4 p4 => q u H4 (s13.trans s4) d4 p4
  · split at h3
    · rename_i hz
      cases h3
      cases dp_str p3
      exact .inr ⟨_, rfl, cap_line hz, q _ H3 s13 d3 (.str _)⟩
    · cases h3
  · cases h3
def mSlL (a : En → Option D) (l h : En → Option (Option Int)) : En → Option (List D) := fun ρ => (a ρ).bind fun x => (l ρ).bind fun lo => (h ρ).bind fun hi => match x with
  | .list ds => some (cutD ds lo hi)
  | _ => none
theorem fl_sl {ta : TE} {tl th : TO} {ma : En → Option D} {ml mh : En → Option (Option Int)} (ha : ET K ta ma) (hl : PAm K tl ml) (hh : PAm K th mh) : FL K (tSl (rSlL K) ta tl th) (mSlL ma ml mh) := by
  refine ⟨fun {H0 T0 σ ρ H T d} G h Q q => ?_⟩
  obtain ⟨x, hx, h1⟩ := bind_some h
  obtain ⟨lo, hlo, h2⟩ := bind_some h1
  obtain ⟨hi, hhi, h3⟩ := bind_some h2
  refine ha.run G hx _ fun v H1 s1 d1 p1 => ?_
  refine hl.run (G.mono s1 d1) hlo _ fun H2 s2 d2 => ?_
  refine hh.run (G.mono (s1.trans s2) d2) hhi _ fun H3 s3 d3 => ?_
  have p3 := dp_mono (s2.trans s3) p1
  split at h3
  · cases h3
    obtain ⟨p, xs, rfl, hs, g⟩ := dp_lst p3
    exact ⟨p, xs, rfl, sql_ov d3 hs, fun r nr => q r _ H3 ((s1.trans s2).trans s3) d3 nr (dpa_cut g lo hi)⟩
  · cases h3

/-! ### in -/
def dInS : D → D → Option D
  | .str p, .str z => match p.cps.toList with
    | [c] => some (.bool (decide (c ∈ z.cps.toList)))
    | _ => none
  | _, _ => none
def dNotInS (a b : D) : Option D := (dInS a b).bind fun z => (isB z).map fun c => .bool (!c)
theorem inS_cases {a b d : D} (h : dInS a b = some d) : ∃ c z, a = .str ⟨#[c]⟩ ∧ b = .str z ∧ d = .bool (decide (c ∈ z.cps.toList)) := by
  unfold dInS at h
  split at h
  · rename_i p z
    split at h
    · rename_i c e
      cases h
      refine ⟨c, z, ?_, rfl, rfl⟩
      obtain ⟨p⟩ := p
      have : p = #[c] := by
        have e' : p.toList = [c] := e
        rw [← Array.toArray_toList (xs := p), e']
      rw [this]
    · cases h
  · cases h
theorem rd_inS : RD K rInS dInS := by
  refine ⟨fun {H T x y a b d} dis ha hb h Q q => ?_⟩
  obtain ⟨c, z, rfl, rfl, rfl⟩ := inS_cases h
  exact ⟨c, z, dp_str ha, dp_str hb, q _ H (Same.refl H) dis (.bl _)⟩
theorem rd_notInS : RD K rNotInS dNotInS := by
  refine ⟨fun {H T x y a b d} dis ha hb h Q q => ?_⟩
  obtain ⟨w, hw, h⟩ := bind_some h
  obtain ⟨k, hk, h⟩ := map_some h
  subst h
  obtain ⟨c, z, rfl, rfl, rfl⟩ := inS_cases hw
  cases isB_some hk
  exact ⟨c, z, dp_str ha, dp_str hb, q _ H (Same.refl H) dis (.bl _)⟩
/-- in a list of any data -/
def dInL : D → D → Option D
  | x, .list ds => if (SeqAt.shaped x && SeqAt.shaped (.list ds)) = true then some (.bool (ds.any fun z => PyData.eqv z x)) else none
  | _, _ => none
def dNotInL (a b : D) : Option D := (dInL a b).bind fun z => (isB z).map fun c => .bool (!c)
theorem rd_inL : RD K (rInD K) dInL := by
  refine ⟨fun {H T x y a b d} dis ha hb h Q q => ?_⟩
  unfold dInL at h
  split at h
  · rename_i ds
    split at h
    · rename_i c
      rw [Bool.and_eq_true] at c
      cases h
      exact ⟨a, ds, dp_ov dis ha, dp_ov dis hb, c.1, c.2, q _ H (Same.refl H) dis (.bl _)⟩
    · cases h
  · cases h
theorem rd_notInL : RD K (rNotInD K) dNotInL := by
  refine ⟨fun {H T x y a b d} dis ha hb h Q q => ?_⟩
  obtain ⟨w, hw, h⟩ := bind_some h
  obtain ⟨k, hk, h⟩ := map_some h
  subst h
  unfold dInL at hw
  split at hw
  · rename_i ds
    split at hw
    · rename_i c
      rw [Bool.and_eq_true] at c
      cases hw
      cases isB_some hk
      exact ⟨a, ds, dp_ov dis ha, dp_ov dis hb, c.1, c.2, q _ H (Same.refl H) dis (.bl _)⟩
    · cases hw
  · cases hw
/-- in a tuple of flat data -/
def flatD : D → Bool
  | .none => true
  | .bool _ => true
  | .int _ => true
  | .str _ => true
  | _ => false
def dInT (neg : Bool) : D → D → Option D
  | x, .tuple ds => if (flatD x && ds.all flatD) = true then some (.bool (if neg then !(ds.any fun z => PyData.eqv z x) else ds.any fun z => PyData.eqv z x)) else none
  | _, _ => none
theorem flat_of (h : Dp K H v d) (f : flatD d = true) : flatV v = true := by cases h <;> first | rfl | cases f
theorem flatA_of : ∀ {xs : List V} {ds : List D}, DpAll K H xs ds → ds.all flatD = true → xs.all flatV = true
  | _, _, .nil, _ => rfl
  | _, _, .cons h t, f => by
    rw [List.all_cons, Bool.and_eq_true] at f
    rw [List.all_cons, flat_of h f.1, flatA_of t f.2]
    rfl
theorem eqV_eqv {x y : V} {a b : D} (ha : Dp K H x a) (hb : Dp K H y b) (fa : flatD a = true) (fb : flatD b = true) : eqV x y = PyData.eqv a b := by
  cases ha <;> first | (cases fa; done) | (cases hb <;> first | (cases fb; done) | (simp [eqV, PyData.eqv]; done) | rfl)
theorem inV_eqv {x : V} {a : D} (ha : Dp K H x a) (fa : flatD a = true) : ∀ {xs : List V} {ds : List D}, DpAll K H xs ds → ds.all flatD = true → inV x xs = ds.any fun z => PyData.eqv z a
  | _, _, .nil, _ => rfl
  | _, _, .cons (vs := vs) (ds := ds) h t, f => by
    rw [List.all_cons, Bool.and_eq_true] at f
    have ih := inV_eqv ha fa t f.2
    unfold inV at ih ⊢
    rw [List.any_cons, List.any_cons, ih, eqV_eqv h ha f.1 fa]
theorem rd_inT {neg : Bool} : RD K (rIn K neg) (dInT neg) := by
  refine ⟨fun {H T x y a b d} dis ha hb h Q q => ?_⟩
  unfold dInT at h
  split at h
  · rename_i ds
    split at h
    · rename_i c
      rw [Bool.and_eq_true] at c
      cases h
      obtain ⟨p, xs, rfl, hs, g⟩ := dp_tup hb
      refine ⟨p, xs, rfl, .inr (sqt_ov dis hs), flat_of ha c.1, flatA_of g c.2, ?_⟩
      rw [inV_eqv ha c.1 g c.2]
      exact q _ H (Same.refl H) dis (.bl _)
    · cases h
  · cases h
end
end DD

set_option Elab.async false
set_option linter.all false
set_option maxRecDepth 100000
set_option maxHeartbeats 4000000
namespace DD
open PySem PySem.Spec PyProof.Rows L2

/-! ### mirrors of statements -/
def sNext : En → Option Fl := fun ρ => some (.nx ρ)
def sSeq (a b : En → Option Fl) : En → Option Fl := fun ρ => (a ρ).bind fun f => match f with
  | .nx ρ' => b ρ'
  | f => some f
def sIf (c : En → Option Bool) (a b : En → Option Fl) : En → Option Fl := fun ρ => (c ρ).bind fun x => if x = true then a ρ else b ρ
def sRet (a : En → Option D) : En → Option Fl := fun ρ => (a ρ).map Fl.rt
def sDrop (a : En → Option D) : En → Option Fl := fun ρ => (a ρ).map fun _ => .nx ρ
def gSet (i : Nat) (d : D) (ρ : En) : Option En := some (ρ.set i (some (.val d)))
def sAsg (a : En → Option D) (g : D → En → Option En) : En → Option Fl := fun ρ => (a ρ).bind fun d => (g d ρ).map Fl.nx
def sOwn (i : Nat) (a : En → Option (List D)) : En → Option Fl := fun ρ => (a ρ).map fun ds => .nx (ρ.set i (some (.own ds)))
def sFrz (i : Nat) (a : En → Option Fl) : En → Option Fl := fun ρ => a (frz i ρ)
def sPar (i j : Nat) (a b : En → Option D) : En → Option Fl := fun ρ => (a ρ).bind fun x => (b ρ).map fun y => .nx ((ρ.set i (some (.val x))).set j (some (.val y)))
def sBrk : En → Option Fl := fun ρ => some (.bk ρ)
def sCnt : En → Option Fl := fun ρ => some (.ct ρ)
def sStop : En → Option Fl := fun _ => none
def loop (g : D → En → Option En) (b : En → Option Fl) : List D → En → Option Fl
  | [], ρ => some (.nx ρ)
  | d :: ds, ρ => (g d ρ).bind fun ρ1 => (b ρ1).bind fun f => match f with
    | .nx ρ2 => loop g b ds ρ2
    | .ct ρ2 => loop g b ds ρ2
    | .bk ρ2 => some (.nx ρ2)
    | .rt d => some (.rt d)
def sFor (it : En → Option (List D)) (g : D → En → Option En) (b : En → Option Fl) : En → Option Fl := fun ρ => (it ρ).bind fun ds => loop g b ds ρ
def whl (c : En → Option Bool) (b : En → Option Fl) : Nat → En → Option Fl
  | 0, _ => none
  | n + 1, ρ => (c ρ).bind fun x => if x = true then (b ρ).bind fun f => match f with
      | .nx ρ2 => whl c b n ρ2
      | .ct ρ2 => whl c b n ρ2
      | .bk ρ2 => some (.nx ρ2)
      | .rt d => some (.rt d)
    else some (.nx ρ)
def sWhile (fuel : En → Nat) (c : En → Option Bool) (b : En → Option Fl) : En → Option Fl := fun ρ => whl c b (fuel ρ) ρ
def sAppend (i : Nat) (a : En → Option D) : En → Option Fl := fun ρ => match ρ[i]? with
  | some (some (.own ds)) => (a ρ).bind fun d => if ds.length < cap then some (.nx (ρ.set i (some (.own (ds ++ [d]))))) else none
  | _ => none
def sExtend (i : Nat) (a : En → Option (List D)) : En → Option Fl := fun ρ => match ρ[i]? with
  | some (some (.own ds)) => (a ρ).bind fun es => if ds.length + es.length ≤ cap then some (.nx (ρ.set i (some (.own (ds ++ es))))) else none
  | _ => none

section
variable {K : PySem.W.Frag} {t u : TS} {te ta tb : TE} {ma mb : En → Option D} {m1 m2 : En → Option Fl}
theorem st_next : TSm K tNext sNext := ⟨fun {H0 T0 σ ρ H T f} G h E q => by cases h; exact q σ H T G⟩
theorem st_brk : TSm K tBreak sBrk := ⟨fun {H0 T0 σ ρ H T f} G h E q => by cases h; exact q σ H T G⟩
theorem st_cnt : TSm K tCont sCnt := ⟨fun {H0 T0 σ ρ H T f} G h E q => by cases h; exact q σ H T G⟩
theorem st_stop {t : TS} : TSm K t sStop := ⟨fun {H0 T0 σ ρ H T f} G h E q => by cases h⟩
theorem st_seq (h1 : TSm K t m1) (h2 : TSm K u m2) : TSm K (tSeq t u) (sSeq m1 m2) := by
  refine ⟨fun {H0 T0 σ ρ H T f} G h E q => ?_⟩
  obtain ⟨x, hx, h⟩ := bind_some h
  refine h1.run G hx _ ?_
  cases x with
  | nx ρ' => exact fun σ' H' T' G' => h2.run G' h E q
  | rt d => cases h; exact q
  | bk ρ' => cases h; exact q
  | ct ρ' => cases h; exact q
theorem FlOk.mono {H0 : Hp} {T0 : Ov} {E : Ends} {f : Fl} (h : FlOk K H0 T0 E f) : FlOk K H0 T0 E f := h
theorem st_if {tc : TT} {mc : En → Option Bool} (hc : TTm K tc mc) (h1 : TSm K t m1) (h2 : TSm K u m2) : TSm K (tIfS tc t u) (sIf mc m1 m2) := by
  refine ⟨fun {H0 T0 σ ρ H T f} G h E q => ?_⟩
  obtain ⟨x, hx, h⟩ := bind_some h
  refine hc.run G hx _ fun H1 s1 d1 => ?_
  cases x with
  | true =>
    rw [if_pos rfl] at h ⊢
    exact h1.run (G.mono s1 d1) h E q
  | false =>
    rw [if_neg Bool.false_ne_true] at h ⊢
    exact h2.run (G.mono s1 d1) h E q
theorem st_ret (ha : ET K te ma) : TSm K (tRet te) (sRet ma) := by
  refine ⟨fun {H0 T0 σ ρ H T f} G h E q => ?_⟩
  obtain ⟨x, hx, h⟩ := map_some h
  subst h
  exact ha.run G hx _ fun v H1 s1 d1 p1 => q v H1 T (G.ex.trans s1) d1 G.ext p1
theorem st_drop (ha : ET K te ma) : TSm K (tDrop te) (sDrop ma) := by
  refine ⟨fun {H0 T0 σ ρ H T f} G h E q => ?_⟩
  obtain ⟨x, hx, h⟩ := map_some h
  subst h
  exact ha.run G hx _ fun v H1 s1 d1 p1 => q σ H1 T (G.mono s1 d1)
theorem tg_name (i : Nat) {vs : List Nat} (hi : i ∈ vs) : TGm K vs (gName i) (gSet i) := by
  refine ⟨fun {H0 T0 σ ρ ρ2 H T v d} G g h Q q => ?_⟩
  cases h
  refine q _ H (G.set g) (Same.refl H) ?_
  have wset : ∀ (vs : List Nat) (σ : L2.St) (x : Option V), i ∈ vs → wipe (σ.set i x) vs = wipe σ vs := by
    intro vs
    induction vs with
    | nil => intro σ x h; cases h
    | cons j r ih =>
      intro σ x h
      show (wipe (σ.set i x) r).set j none = (wipe σ r).set j none
      rcases List.mem_cons.mp h with rfl | h
      · by_cases hr : i ∈ r
        · rw [ih σ x hr]
        · have : ∀ (r : List Nat) (σ : L2.St), i ∉ r → wipe (σ.set i x) r = (wipe σ r).set i x := by
            intro r
            induction r with
            | nil => intro σ _; rfl
            | cons k r ih2 =>
              intro σ h
              show (wipe (σ.set i x) r).set k none = ((wipe σ r).set k none).set i x
              rw [ih2 σ (fun z => h (List.mem_cons_of_mem _ z)), List.set_comm _ _ (fun z : i = k => h (by rw [z]; exact List.mem_cons_self))]
          rw [this r σ hr, List.set_set]
      · rw [ih σ x h]
  exact wset vs σ _ hi
theorem st_asg {vs : List Nat} {g : TG} {mg : D → En → Option En} (ha : ET K te ma) (hg : TGm K vs g mg) : TSm K (tAsg te g) (sAsg ma mg) := by
  refine ⟨fun {H0 T0 σ ρ H T f} G h E q => ?_⟩
  obtain ⟨x, hx, h⟩ := bind_some h
  obtain ⟨ρ2, h2, h⟩ := map_some h
  subst h
  exact ha.run G hx _ fun v H1 s1 d1 p1 => hg.run (G.mono s1 d1) p1 h2 _ fun σ2 H2 G2 _ _ => q σ2 H2 T G2
theorem st_set (i : Nat) (ha : ET K te ma) : TSm K (tAsg te (gName i)) (sAsg ma (gSet i)) := st_asg ha (tg_name i (vs := [i]) List.mem_cons_self)
theorem st_own (i : Nat) {m : En → Option (List D)} (ha : FL K te m) : TSm K (tAsg te (gName i)) (sOwn i m) := by
  refine ⟨fun {H0 T0 σ ρ H T f} G h E q => ?_⟩
  obtain ⟨ds, hd, h⟩ := map_some h
  subst h
  refine ha.run G hd _ fun p xs H1 s1 d1 n1 p1 => ?_
  rw [upd_put]
  exact q _ _ _ ((G.mono s1 d1).setOwn p1 n1)
theorem st_frz (i : Nat) (h1 : TSm K t m1) : TSm K t (sFrz i m1) := by
  refine ⟨fun {H0 T0 σ ρ H T f} G h E q => ?_⟩
  obtain ⟨H', T', G', e, _⟩ := G.freeze i
  rw [e]
  exact h1.run G' h E q
theorem st_par {i j : Nat} (ha : ET K ta ma) (hb : ET K tb mb) : TSm K (tPar i j (tCons ta (tCons tb tNil))) (sPar i j ma mb) := by
  refine ⟨fun {H0 T0 σ ρ H T f} G h E q => ?_⟩
  obtain ⟨x, hx, h⟩ := bind_some h
  obtain ⟨y, hy, h⟩ := map_some h
  subst h
  refine ha.run G hx _ fun v H1 s1 d1 p1 => ?_
  refine hb.run (G.mono s1 d1) hy _ fun w H2 s2 d2 p2 => ⟨v, w, rfl, ?_⟩
  exact q _ H2 T (((G.mono (s1.trans s2) d2).set (dp_mono s2 p1)).set p2)
theorem st_append {i : Nat} (ha : ET K te ma) : TSm K (tDrop (tBM K "list" rAppend (tVar i) (tCons te tNil))) (sAppend i ma) := by
  refine ⟨fun {H0 T0 σ ρ H T f} G h E q => ?_⟩
  unfold sAppend at h
  split at h
  · rename_i ds e
    obtain ⟨x, hx, h⟩ := bind_some h
    split at h
    · rename_i hz
      cases h
      obtain ⟨p, xs, a, b, c, g⟩ := G.own i ds e
      refine ⟨.ref p, a, .inl ⟨rfl, xs, SqL.of (ov_own b)⟩, ?_⟩
      refine ha.run G hx _ fun v H1 s1 d1 p1 => ?_
      refine ⟨p, xs, v, rfl, rfl, ov_own b, cap_lt (by rw [dpa_len g]; omega), ?_⟩
      rw [upd_put]
      exact q _ _ _ ((G.mono s1 d1).turn e a b (dpa_snoc (dpa_mono s1 g) p1))
    · cases h
  · cases h
theorem st_extend {i : Nat} {m : En → Option (List D)} (ha : FL K te m) : TSm K (tDrop (tBM K "list" rExtend (tVar i) (tCons te tNil))) (sExtend i m) := by
  refine ⟨fun {H0 T0 σ ρ H T f} G h E q => ?_⟩
  unfold sExtend at h
  split at h
  · rename_i ds e
    obtain ⟨es, hx, h⟩ := bind_some h
    split at h
    · rename_i hz
      cases h
      obtain ⟨p, xs, a, b, c, g⟩ := G.own i ds e
      refine ⟨.ref p, a, .inl ⟨rfl, xs, SqL.of (ov_own b)⟩, ?_⟩
      refine ha.run G hx _ fun r ys H1 s1 d1 n1 p1 => ?_
      obtain ⟨nT, nH⟩ := ov_free n1
      have ne : p ≠ r := fun z => by rw [← z, b] at nT; cases nT
      refine ⟨p, r, xs, ys, rfl, rfl, by rw [upd_ne ne]; exact ov_own b, upd_same, cap_line (by rw [dpa_len g, dpa_len p1]; exact hz), ?_⟩
      rw [upd_ov nT, upd_put]
      have s2 : Same H1 (upd H1 r (.lst ys)) := same_new nH
      exact q _ _ _ ((G.mono (s1.trans s2) (dis_upd d1 nT)).turn e a b (dpa_append (dpa_mono (s1.trans s2) g) (dpa_mono s2 p1)))
    · cases h
  · cases h
theorem st_for {wi : TI} {mi : En → Option (List D)} {vs : List Nat} {g : TG} {mg : D → En → Option En} (hi : IT K wi mi) (hg : TGm K vs g mg) (hb : TSm K t m1) : TSm K (tFor wi g t) (sFor mi mg m1) := by
  refine ⟨fun {H0 T0 σ ρ H T f} G h E q => ?_⟩
  obtain ⟨ds, hd, h⟩ := bind_some h
  refine hi.run G hd _ fun J Hm s1 d1 w => ?_
  refine ⟨fun i m σ Hc => i ≤ ds.length ∧ m = ds.length - i ∧ ∃ ρ H T, Hc = ov H T ∧ Good K H0 T0 σ ρ H T ∧ Same Hm H ∧ loop mg m1 (ds.drop i) ρ = some f, ⟨ds.length, Nat.zero_le _, rfl, ρ, Hm, T, rfl, G.mono s1 d1, Same.refl Hm, h⟩, ?_⟩
  rintro i m σ1 Hc ⟨hi, rfl, ρ1, H1, T1, rfl, G1, sm, hl⟩
  by_cases hlt : i < ds.length
  · have hge : ds[i]? = some ds[i] := List.getElem?_eq_getElem hlt
    rw [List.drop_eq_getElem_cons hlt] at hl
    obtain ⟨ρ2, h2, hl⟩ := bind_some hl
    obtain ⟨f3, h3, hl⟩ := bind_some hl
    refine .inr ⟨w.go i sm G1.dis hlt, fun σ' Hc' => ∃ ρ H T, Hc' = ov H T ∧ Good K H0 T0 σ' ρ H T ∧ Same Hm H ∧ loop mg m1 (ds.drop (i + 1)) ρ = some f, fun σ' Hc' ⟨ρ', H', T', e', G', s', l'⟩ => ⟨ds.length - (i + 1), by omega, by omega, rfl, ρ', H', T', e', G', s', l'⟩, fun x Hc' y => ?_⟩
    obtain ⟨H2, rfl, s2, d2, p2⟩ := w.yld i sm G1.dis hge y
    refine hg.run (G1.mono s2 d2) p2 h2 _ fun σ3 H3 G3 s3 _ => ?_
    refine hb.run (H0 := H3) (T0 := T0) (σ := σ3) (ρ := ρ2) (H := H3) (T := T1) ⟨G3.len, G3.val, G3.own, G3.inj, G3.dis, G3.ext, Same.refl H3⟩ h3 _ ?_
    have s03 : Same H0 H3 := G3.ex
    cases f3 with
    | nx ρ4 => exact fun σ4 H4 T4 G4 => ⟨ρ4, H4, T4, rfl, ⟨G4.len, G4.val, G4.own, G4.inj, G4.dis, G4.ext, s03.trans G4.ex⟩, (sm.trans (s2.trans s3)).trans G4.ex, hl⟩
    | ct ρ4 => exact fun σ4 H4 T4 G4 => ⟨ρ4, H4, T4, rfl, ⟨G4.len, G4.val, G4.own, G4.inj, G4.dis, G4.ext, s03.trans G4.ex⟩, (sm.trans (s2.trans s3)).trans G4.ex, hl⟩
    | bk ρ4 =>
      cases hl
      exact fun σ4 H4 T4 G4 => q σ4 H4 T4 ⟨G4.len, G4.val, G4.own, G4.inj, G4.dis, G4.ext, s03.trans G4.ex⟩
    | rt d =>
      cases hl
      exact fun v H4 T4 s4 d4 e4 p4 => q v H4 T4 (s03.trans s4) d4 e4 p4
  · have e : i = ds.length := by omega
    subst e
    rw [List.drop_length] at hl
    cases hl
    exact .inl ⟨w.stop sm G1.dis, q σ1 H1 T1 G1⟩
theorem st_while {tc : TT} {mc : En → Option Bool} (fuel : En → Nat) (hc : TTm K tc mc) (hb : TSm K t m1) : TSm K (tWhile tc t) (sWhile fuel mc m1) := by
  refine ⟨fun {H0 T0 σ ρ H T f} G h E q => ?_⟩
  refine ⟨fun m σ Hc => ∃ ρ H T, Hc = ov H T ∧ Good K H0 T0 σ ρ H T ∧ whl mc m1 m ρ = some f, ⟨fuel ρ, ρ, H, T, rfl, G, h⟩, ?_⟩
  rintro m σ1 Hc ⟨ρ1, H1, T1, rfl, G1, hw⟩
  cases m with
  | zero => cases hw
  | succ n =>
    obtain ⟨x, hx, hw⟩ := bind_some hw
    refine hc.run G1 hx _ fun H2 s2 d2 => ?_
    have G2 := G1.mono s2 d2
    cases x with
    | true =>
      rw [if_pos rfl] at hw ⊢
      obtain ⟨f3, h3, hl⟩ := bind_some hw
      refine ⟨fun σ' Hc' => ∃ ρ H T, Hc' = ov H T ∧ Good K H0 T0 σ' ρ H T ∧ whl mc m1 n ρ = some f, fun σ' Hc' h' => ⟨n, Nat.lt_succ_self n, h'⟩, ?_⟩
      refine hb.run G2 h3 _ ?_
      cases f3 with
      | nx ρ4 => exact fun σ4 H4 T4 G4 => ⟨ρ4, H4, T4, rfl, G4, hl⟩
      | ct ρ4 => exact fun σ4 H4 T4 G4 => ⟨ρ4, H4, T4, rfl, G4, hl⟩
      | bk ρ4 => cases hl; exact q
      | rt d => cases hl; exact q
    | false =>
      rw [if_neg Bool.false_ne_true] at hw ⊢
      cases hw
      exact q σ1 H2 T1 G2

/-! ### what is walked -/
def its : D → Option (List D)
  | .list ds => some ds
  | .tuple ds => some ds
  | .str z => some (z.cps.toList.map fun c => .str ⟨#[c]⟩)
  | _ => none
def mIter (a : En → Option D) : En → Option (List D) := fun ρ => (a ρ).bind its
def iAny (K : PySem.W.Frag) (te : TE) : TI := fun σ H R => te σ H fun x H1 => (∃ a, x = .ref a ∧ (∃ xs, SqL K H1 a xs) ∧ R (Itl K a) H1) ∨ (∃ a, x = .ref a ∧ (∃ xs, SqT K H1 a xs) ∧ R (Itt K a) H1) ∨ ∃ z, x = .str z ∧ R (Its z) H1
theorem pi_any {X : Cx} {tg l : Expr} {tl : TE} (hl : PE X l tl) : PI X tg l (iAny X.K tl) := by
  refine ⟨fun pins s σ H R I h => ?_⟩
  refine thn (hl.run pins s σ H _ I h) fun v s1 ⟨x, H1, I1, r1, q1⟩ => ?_
  rcases q1 with ⟨a, e, ⟨xs, hq⟩, q⟩ | ⟨a, e, ⟨xs, hq⟩, q⟩ | ⟨z, e, q⟩
  · subst e
    cases r1
    obtain ⟨its, rv, p, hz⟩ := I1.list hq
    refine wpAny_pyIter_list p.isList ?_
    refine ⟨s1.heap.objs.size, [s1.heap.objs.size], _, _, H1, rfl, I1.kept (t' := s1.toks) fun b o e => Heap.get?_push_of_some _ e, turn_list a _, ⟨_, Heap.get?_push_size _ rfl, rfl, rfl⟩, fun b hb => ?_, q⟩
    have e : b = s1.heap.objs.size := by simpa using hb
    subst e
    exact I1.fpOk (Nat.le_refl _) (I1.hok.fresh (Nat.le_refl _))
  · subst e
    cases r1
    obtain ⟨its, rv, p, hz⟩ := I1.tuple hq
    refine wpAny_pyIter_tuple (show s1.heap.IsTuple a its.toArray from p) ?_
    refine ⟨s1.heap.objs.size, [s1.heap.objs.size], _, _, H1, rfl, I1.kept (t' := s1.toks) fun b o e => Heap.get?_push_of_some _ e, turn_tuple a _, ⟨_, Heap.get?_push_size _ rfl, rfl, rfl⟩, fun b hb => ?_, q⟩
    have e : b = s1.heap.objs.size := by simpa using hb
    subst e
    exact I1.fpOk (Nat.le_refl _) (I1.hok.fresh (Nat.le_refl _))
  · subst e
    obtain ⟨t, rfl⟩ := r1
    cases ha : z.cps.all (· < 128)
    · exact wpAny_pyIter_wide ha (pi_one (tk := s1.toks) I1 _ (turn_str _ z t "str_iterator" (.inr rfl)) ⟨_, Heap.get?_push_size _ rfl, rfl, rfl⟩ q)
    · exact wpAny_pyIter_ascii ha (pi_one (tk := s1.toks) I1 _ (turn_str _ z t "str_ascii_iterator" (.inl rfl)) ⟨_, Heap.get?_push_size _ rfl, rfl, rfl⟩ q)
theorem it_any {ma : En → Option D} (ha : ET K te ma) : IT K (iAny K te) (mIter ma) := by
  refine ⟨fun {H0 T0 σ ρ H T ds} G h R q => ?_⟩
  obtain ⟨x, hx, h⟩ := bind_some h
  refine ha.run G hx _ fun v H1 s1 d1 p1 => ?_
  unfold its at h
  split at h
  · cases h
    obtain ⟨p, xs, rfl, hs, g⟩ := dp_lst p1
    refine .inl ⟨p, rfl, ⟨xs, sql_ov d1 hs⟩, q _ H1 s1 d1 ⟨fun {H T} i sm dis hi => ?_, fun {H T} sm dis => ?_, fun {H T} i {x Hc d} sm dis hd y => ?_⟩⟩
    · rw [← dpa_len g] at hi
      exact ⟨xs, xs[i], sql_ov dis (sm.seq hs), by simp [hi]⟩
    · exact ⟨xs, sql_ov dis (sm.seq hs), by rw [dpa_len g]; exact Nat.le_refl _⟩
    · obtain ⟨rfl, y⟩ := y
      obtain ⟨w, hw, gw⟩ := dpa_get g hd
      have := y xs (sql_ov dis (sm.seq hs))
      rw [hw] at this
      cases this
      exact ⟨H, rfl, Same.refl H, dis, dp_mono sm gw⟩
  · cases h
    obtain ⟨p, xs, rfl, hs, g⟩ := dp_tup p1
    refine .inr (.inl ⟨p, rfl, ⟨xs, sqt_ov d1 hs⟩, q _ H1 s1 d1 ⟨fun {H T} i sm dis hi => ?_, fun {H T} sm dis => ?_, fun {H T} i {x Hc d} sm dis hd y => ?_⟩⟩)
    · rw [← dpa_len g] at hi
      exact ⟨xs, xs[i], sqt_ov dis (Same.sqt sm hs), by simp [hi]⟩
    · exact ⟨xs, sqt_ov dis (Same.sqt sm hs), by rw [dpa_len g]; exact Nat.le_refl _⟩
    · obtain ⟨rfl, y⟩ := y
      obtain ⟨w, hw, gw⟩ := dpa_get g hd
      have := y xs (sqt_ov dis (Same.sqt sm hs))
      rw [hw] at this
      cases this
      exact ⟨H, rfl, Same.refl H, dis, dp_mono sm gw⟩
  · rename_i z
    cases h
    refine .inr (.inr ⟨z, dp_str p1, q _ H1 s1 d1 ⟨fun {H T} i sm dis hi => ?_, fun {H T} sm dis => ?_, fun {H T} i {x Hc d} sm dis hd y => ?_⟩⟩)
    · rw [List.length_map, Array.length_toList] at hi
      exact hi
    · show z.cps.size ≤ _
      rw [List.length_map, Array.length_toList]
      exact Nat.le_refl _
    · obtain ⟨rfl, c, hc, rfl⟩ := y
      rw [List.getElem?_map, Array.getElem?_toList, hc] at hd
      cases hd
      exact ⟨H, rfl, Same.refl H, dis, .str _⟩
  · cases h
/-- range(n), range(a, b) -/
def upto (lo : Int) (n : Nat) : List D := (List.range n).map fun (i : Nat) => PyData.int (lo + (i : Int))
def mRange (a : En → Option (List D)) : En → Option (List D) := fun ρ => (a ρ).bind fun ds => match ds with
  | [.int j] => if -(2 ^ 62) ≤ j ∧ j < 2 ^ 62 then some (upto 0 j.toNat) else none
  | [.int i, .int j] => if -(2 ^ 62) ≤ i ∧ i < 2 ^ 62 ∧ -(2 ^ 62) ≤ j ∧ j < 2 ^ 62 then some (upto i (j - i).toNat) else none
  | _ => none
theorem wk_range {Hm : Hp} {lo : Int} {n : Nat} : Wk K (Itr lo n) Hm (upto lo n) := by
  refine ⟨fun {H T} i sm dis hi => ?_, fun {H T} sm dis => ?_, fun {H T} i {x Hc d} sm dis hd y => ?_⟩
  · unfold upto at hi
    rw [List.length_map, List.length_range] at hi
    exact hi
  · unfold upto
    rw [List.length_map, List.length_range]
    exact Nat.le_refl _
  · obtain ⟨rfl, rfl⟩ := y
    unfold upto at hd
    rw [List.getElem?_map] at hd
    by_cases hi : i < n
    · rw [List.getElem?_range hi] at hd
      cases hd
      exact ⟨H, rfl, Same.refl H, dis, .int _⟩
    · rw [List.getElem?_eq_none (by simpa using hi)] at hd
      cases hd
theorem it_range1 {ta : TA} {m : En → Option (List D)} (ha : TAm K ta m) : IT K (iRng1 ta) (mRange fun ρ => (m ρ).bind fun ds => if ds.length = 1 then some ds else none) := by
  refine ⟨fun {H0 T0 σ ρ H T ds} G h R q => ?_⟩
  obtain ⟨x, hx, h⟩ := bind_some h
  obtain ⟨y, hy, hx⟩ := bind_some hx
  split at hx
  · rename_i hl
    cases hx
    refine ha.run G hy _ fun vs H1 s1 d1 p1 => ?_
    split at h
    · split at h
      · rename_i hb
        cases h
        obtain ⟨v, rfl, g⟩ := dpa_one p1
        cases dp_int g
        exact ⟨_, rfl, hb.1, hb.2, q _ H1 s1 d1 wk_range⟩
      · cases h
    · cases hl
    · cases h
  · cases hx
theorem it_range2 {ta : TA} {m : En → Option (List D)} (ha : TAm K ta m) : IT K (iRng2 ta) (mRange fun ρ => (m ρ).bind fun ds => if ds.length = 2 then some ds else none) := by
  refine ⟨fun {H0 T0 σ ρ H T ds} G h R q => ?_⟩
  obtain ⟨x, hx, h⟩ := bind_some h
  obtain ⟨y, hy, hx⟩ := bind_some hx
  split at hx
  · rename_i hl
    cases hx
    refine ha.run G hy _ fun vs H1 s1 d1 p1 => ?_
    split at h
    · cases hl
    · split at h
      · rename_i hb
        cases h
        obtain ⟨u, v, rfl, g1, g2⟩ := dpa_two p1
        cases dp_int g1
        cases dp_int g2
        exact ⟨_, _, rfl, hb, q _ H1 s1 d1 wk_range⟩
      · cases h
    · cases h
  · cases hx

/-! ### targets of several names -/
def gNilM (ds : List D) (ρ : En) : Option En := match ds with
  | [] => some ρ
  | _ => none
def gConsM (g : D → En → Option En) (r : List D → En → Option En) (ds : List D) (ρ : En) : Option En := match ds with
  | d :: es => (g d ρ).bind fun ρ1 => r es ρ1
  | [] => none
def gTupM (n : Nat) (g : List D → En → Option En) (d : D) (ρ : En) : Option En := match d with
  | .tuple ds => if ds.length = n then g ds ρ else none
  | _ => none
theorem tgs_nil {vs : List Nat} : TGsm K vs gNil gNilM := by
  refine ⟨fun {H0 T0 σ ρ ρ2 H T xs ds} G g h Q q => ?_⟩
  unfold gNilM at h
  split at h
  · cases h
    cases g
    exact ⟨rfl, q σ H G (Same.refl H) rfl⟩
  · cases h
theorem tgs_cons {vs : List Nat} {g : TG} {gs : TGs} {mg : D → En → Option En} {mr : List D → En → Option En} (h1 : TGm K vs g mg) (h2 : TGsm K vs gs mr) : TGsm K vs (gCons g gs) (gConsM mg mr) := by
  refine ⟨fun {H0 T0 σ ρ ρ2 H T xs ds} G g h Q q => ?_⟩
  unfold gConsM at h
  split at h
  · obtain ⟨ρ1, e1, h⟩ := bind_some h
    cases g with
    | cons a b =>
      refine ⟨_, _, rfl, ?_⟩
      refine h1.run G a e1 _ fun σ2 H2 G2 s2 w2 => ?_
      exact h2.run G2 (dpa_mono s2 b) h _ fun σ3 H3 G3 s3 w3 => q σ3 H3 G3 (s2.trans s3) (w3.trans w2)
  · cases h
theorem tg_tup {vs : List Nat} {n : Nat} {gs : TGs} {mr : List D → En → Option En} (h : TGsm K vs gs mr) : TGm K vs (gTup K n gs) (gTupM n mr) := by
  refine ⟨fun {H0 T0 σ ρ ρ2 H T v d} G g e Q q => ?_⟩
  unfold gTupM at e
  split at e
  · split at e
    · rename_i hn
      obtain ⟨p, xs, rfl, hs, ga⟩ := dp_tup g
      exact ⟨p, xs, rfl, sqt_ov G.dis hs, by rw [dpa_len ga]; exact hn, h.run G ga e Q q⟩
    · cases e
  · cases e

/-! ### comprehensions -/
def wipeM (ρ : En) : List Nat → En
  | [] => ρ
  | v :: vs => (wipeM ρ vs).set v none
def coll (g : D → En → Option En) (c : En → Option Bool) (e : En → Option D) (ρ : En) : List D → Option (List D)
  | [] => some []
  | d :: ds => (g d ρ).bind fun ρ1 => (c ρ1).bind fun b => if b = true then (e ρ1).bind fun x => (coll g c e ρ ds).map fun r => x :: r else coll g c e ρ ds
def mLc (it : En → Option (List D)) (g : D → En → Option En) (c : En → Option Bool) (e : En → Option D) (vs : List Nat) : En → Option (List D) := fun ρ => (it ρ).bind fun ds => if ds.length ≤ cap then coll g c e (wipeM ρ vs) ds else none
def mYes : En → Option Bool := fun _ => some true
theorem et_yes : TTm K tYes mYes := ⟨fun {H0 T0 σ ρ H T b} G h Q q => by cases h; exact q H (Same.refl H) G.dis⟩
theorem Good.drop {K : PySem.W.Frag} {H0 H : Hp} {T0 T : Ov} {σ : L2.St} {ρ : En} (i : Nat) (G : Good K H0 T0 σ ρ H T) : Good K H0 T0 (σ.set i none) (ρ.set i none) H T := by
  refine ⟨by rw [List.length_set, List.length_set]; exact G.len, fun j x h => ?_, fun j x h => ?_, fun j k ds es p h1 h2 h3 h4 => ?_, G.dis, G.ext, G.ex⟩
  · rcases get_set h with ⟨_, q, _⟩ | ⟨e, q⟩
    · cases q
    · obtain ⟨w, a, b⟩ := G.val j x q
      exact ⟨w, by rw [List.getElem?_set_ne (Ne.symm e)]; exact a, b⟩
  · rcases get_set h with ⟨_, q, _⟩ | ⟨e, q⟩
    · cases q
    · obtain ⟨p, xs, a, b⟩ := G.own j x q
      exact ⟨p, xs, by rw [List.getElem?_set_ne (Ne.symm e)]; exact a, b⟩
  · rcases get_set h1 with ⟨_, q, _⟩ | ⟨e1, q1⟩
    · cases q
    · rcases get_set h2 with ⟨_, q, _⟩ | ⟨e2, q2⟩
      · cases q
      · rw [List.getElem?_set_ne (Ne.symm e1)] at h3
        rw [List.getElem?_set_ne (Ne.symm e2)] at h4
        exact G.inj j k ds es p q1 q2 h3 h4
theorem Good.wipe {K : PySem.W.Frag} {H0 H : Hp} {T0 T : Ov} {σ : L2.St} {ρ : En} (G : Good K H0 T0 σ ρ H T) : ∀ vs : List Nat, Good K H0 T0 (wipe σ vs) (wipeM ρ vs) H T
  | [] => G
  | v :: vs => (Good.wipe G vs).drop v
theorem wipe_wipe (σ : L2.St) (vs : List Nat) : wipe (wipe σ vs) vs = wipe σ vs := by
  apply List.ext_getElem?
  intro i
  have key : ∀ (vs : List Nat) (σ : L2.St), (wipe σ vs)[i]? = if i ∈ vs then (if i < σ.length then some none else none) else σ[i]? := by
    intro vs
    induction vs with
    | nil => intro σ; simp [L2.wipe]
    | cons v r ih =>
      intro σ
      show ((L2.wipe σ r).set v none)[i]? = _
      by_cases h : v = i
      · subst h
        rw [List.getElem?_set]
        simp [wipe_length]
      · rw [List.getElem?_set_ne h, ih σ]
        have : (i ∈ v :: r) ↔ i ∈ r := by simp [Ne.symm h]
        simp only [this]
  rw [key vs (wipe σ vs), key vs σ, wipe_length]
  split <;> rfl
/-- one list more of one's own, known to no slot -/
theorem Good.more {K : PySem.W.Frag} {H0 H : Hp} {T0 T : Ov} {σ : L2.St} {ρ : En} {p : Addr} {xs : List V} (G : Good K H0 T0 σ ρ H T) (hp : ov H T p = none) : Good K H0 T0 σ ρ H (put T p xs) := by
  obtain ⟨hT, hH⟩ := ov_free hp
  have ne : ∀ a ys, T a = some ys → a ≠ p := fun a ys e z => by rw [z, hT] at e; cases e
  exact ⟨G.len, G.val, fun i ds h => let ⟨r, ys, a, b, c⟩ := G.own i ds h; ⟨r, ys, a, by rw [put_ne (ne r ys b)]; exact b, c⟩, G.inj, dis_put G.dis hH, fun a ys e => by rw [put_ne (ne a ys (G.ext a ys e))]; exact G.ext a ys e, G.ex⟩
theorem put_put {T : Ov} {p : Addr} {xs ys : List V} : put (put T p xs) p ys = put T p ys := by
  funext a
  unfold put
  split <;> rfl
theorem fl_lc {wi : TI} {g : TG} {tt : TT} {te : TE} {vs : List Nat} {mi : En → Option (List D)} {mg : D → En → Option En} {mc : En → Option Bool} {me : En → Option D}
    (hi : IT K wi mi) (hg : TGm K vs g mg) (ht : TTm K tt mc) (he : ET K te me) : FL K (tLc wi g tt te vs) (mLc mi mg mc me vs) := by
  refine ⟨fun {H0 T0 σ ρ H T out} G h Q q => ?_⟩
  obtain ⟨ds, hd, h⟩ := bind_some h
  split at h
  · rename_i hz
    refine hi.run G hd _ fun J Hm s1 d1 w => ?_
    intro Dl hD
    obtain ⟨nT, nH⟩ := ov_free hD
    have G1 := (G.mono s1 d1).wipe vs
    refine ⟨fun i m Hc => i ≤ ds.length ∧ m = ds.length - i ∧ ∃ H1 acc as r, Hc = ov H1 (put T Dl acc) ∧ Same Hm H1 ∧ Dis H1 T ∧ H1 Dl = none ∧ DpAll K H1 acc as ∧ acc.length ≤ i ∧ coll mg mc me (wipeM ρ vs) (ds.drop i) = some r ∧ out = as ++ r,
      ⟨ds.length, Nat.zero_le _, rfl, Hm, [], [], out, by rw [upd_put], Same.refl Hm, d1, nH, .nil, Nat.le_refl _, h, rfl⟩, ?_⟩
    rintro i m Hc ⟨hil, rfl, H1, acc, as, r, rfl, sm, dis, nD, ga, hac, hc, eo⟩
    have dput : Dis H1 (put T Dl acc) := dis_put dis nD
    by_cases hlt : i < ds.length
    · have hge : ds[i]? = some ds[i] := List.getElem?_eq_getElem hlt
      rw [List.drop_eq_getElem_cons hlt] at hc
      obtain ⟨ρ2, h2, hc⟩ := bind_some hc
      obtain ⟨b, hb, hc⟩ := bind_some hc
      refine .inr ⟨w.go i sm dput hlt, fun Hc' => ∃ H1 acc as r, Hc' = ov H1 (put T Dl acc) ∧ Same Hm H1 ∧ Dis H1 T ∧ H1 Dl = none ∧ DpAll K H1 acc as ∧ acc.length ≤ i + 1 ∧ coll mg mc me (wipeM ρ vs) (ds.drop (i + 1)) = some r ∧ out = as ++ r,
        fun Hc' ⟨H1, acc, as, r, a1, a2, a3, a4, a5, a6, a7, a8⟩ => ⟨ds.length - (i + 1), by omega, by omega, rfl, H1, acc, as, r, a1, a2, a3, a4, a5, a6, a7, a8⟩, fun x Hc' y => ?_⟩
      obtain ⟨H2, rfl, s2, d2, p2⟩ := w.yld i sm dput hge y
      have fr : ∀ {H' : Hp}, Dis H' (put T Dl acc) → Dis H' T ∧ H' Dl = none := fun {H'} d => ⟨fun a xs e => by
        by_cases z : a = Dl
        · rw [z, nT] at e; cases e
        · exact d a xs (by rw [put_ne z]; exact e), d Dl acc put_same⟩
      have G2 : Good K H0 T0 (L2.wipe σ vs) (wipeM ρ vs) H2 (put T Dl acc) := (((G.mono s1 d1).wipe vs).more hD).mono (sm.trans s2) d2
      refine hg.run G2 p2 h2 _ fun σ3 H3 G3 s3 w3 => ⟨by rw [w3, wipe_wipe], ?_⟩
      refine ht.run G3 hb _ fun H4 s4 d4 => ?_
      have G4 := G3.mono s4 d4
      cases b with
      | true =>
        rw [if_pos rfl] at hc ⊢
        obtain ⟨z, hz2, hc⟩ := bind_some hc
        obtain ⟨r', hr, hc⟩ := map_some hc
        refine he.run G4 hz2 _ fun v H5 s5 d5 p5 => ?_
        obtain ⟨dT, dn⟩ := fr d5
        refine ⟨acc, ov_own put_same, cap_lt (Nat.le_trans hac (Nat.le_trans (Nat.le_of_lt hlt) hz)), H5, acc ++ [v], as ++ [z], r', by rw [upd_put, put_put], (sm.trans s2).trans ((s3.trans s4).trans s5), dT, dn, dpa_snoc (dpa_mono (s2.trans ((s3.trans s4).trans s5)) ga) p5, by rw [List.length_append, List.length_singleton]; omega, hr, ?_⟩
        rw [eo, ← hc, List.append_assoc]
        rfl
      | false =>
        rw [if_neg Bool.false_ne_true] at hc ⊢
        obtain ⟨dT, dn⟩ := fr d4
        exact ⟨H4, acc, as, r, rfl, (sm.trans s2).trans (s3.trans s4), dT, dn, dpa_mono (s2.trans (s3.trans s4)) ga, by omega, hc, eo⟩
    · have e : i = ds.length := by omega
      subst e
      rw [List.drop_length] at hc
      cases hc
      rw [List.append_nil] at eo
      subst eo
      refine .inl ⟨w.stop sm dput, ?_⟩
      rw [← upd_put]
      have hfree : ov H1 T Dl = none := by rw [ov_none nT]; exact nD
      exact q Dl acc H1 (s1.trans sm) dis hfree ga
  · cases h

/-! ### a def -/
def start0 (N : Nat) (ds : List D) : En := ds.map (fun d => some (.val d)) ++ List.replicate (N - ds.length) none
def mDef (N : Nat) (b : En → Option Fl) (ds : List D) : Option D := (b (start0 N ds)).bind fun f => match f with
  | .rt d => some d
  | .nx _ => some .none
  | _ => none
theorem good_start {N : List Str} {vs : List V} {ds : List D} {H : Hp} {T : Ov} (h : DpAll K H vs ds) (d : Dis H T) : Good K H T (start N vs) (start0 N.length ds) H T := by
  have hl := dpa_len h
  have at0 : ∀ (i : Nat) (s : Sl), (start0 N.length ds)[i]? = some (some s) → ∃ d, ds[i]? = some d ∧ s = .val d := by
    intro i s e
    unfold start0 at e
    by_cases hi : i < ds.length
    · rw [List.getElem?_append_left (by simpa using hi), List.getElem?_map, List.getElem?_eq_getElem hi] at e
      cases e
      exact ⟨ds[i], List.getElem?_eq_getElem hi, rfl⟩
    · rw [List.getElem?_append_right (by simpa using hi), List.getElem?_replicate] at e
      split at e <;> cases e
  refine ⟨?_, fun i x e => ?_, fun i x e => ?_, fun i j as bs p e1 e2 _ _ => ?_, d, fun a xs e => e, Same.refl H⟩
  · unfold L2.start start0
    rw [List.length_append, List.length_append, List.length_map, List.length_map, List.length_replicate, List.length_replicate, hl]
  · obtain ⟨d, hd, es⟩ := at0 i _ e
    cases es
    obtain ⟨v, hv, g⟩ := dpa_get h hd
    refine ⟨v, ?_, g⟩
    unfold L2.start
    rw [List.getElem?_append_left (by rw [List.length_map]; exact (List.getElem?_eq_some_iff.mp hv).1), List.getElem?_map, hv]
    rfl
  · obtain ⟨d, hd, es⟩ := at0 i _ e
    cases es
  · obtain ⟨d, hd, es⟩ := at0 i _ e1
    cases es
/-- the caller's lists out of the way again -/
theorem back {H0 H : Hp} {T0 T : Ov} (d0 : Dis H0 T0) (s : Same H0 H) (d : Dis H T) (e : Ext T0 T) : ∃ H', ov H T = ov H' T0 ∧ Same H0 H' ∧ Dis H' T0 ∧ Same H H' := by
  refine ⟨fun a => match T0 a with | some _ => none | none => ov H T a, ?_, fun a o h => ?_, fun a xs h => ?_, fun a o h => ?_⟩
  · funext a
    cases q : T0 a with
    | some xs => rw [ov_own q, ov_own (e a xs q)]
    | none =>
      rw [ov_none q]
      show ov H T a = match T0 a with | some _ => none | none => ov H T a
      rw [q]
  · have q : T0 a = none := by
      cases q : T0 a with
      | none => rfl
      | some xs => have := d0 a xs q; rw [h] at this; cases this
    show (match T0 a with | some _ => none | none => ov H T a) = some o
    rw [q]
    exact same_ov d a o (s a o h)
  · show (match T0 a with | some _ => none | none => ov H T a) = none
    rw [h]
  · have q : T0 a = none := by
      cases q : T0 a with
      | none => rfl
      | some xs => have := d a xs (e a xs q); rw [h] at this; cases this
    show (match T0 a with | some _ => none | none => ov H T a) = some o
    rw [q]
    exact same_ov d a o h
theorem def_ok {P : Program} {w : World} {mg : Str → Option Value} {base : Heap} {x qual : Str} {st : Stmt} {f : Addr} {fd : FuncData} {N ps : List Str} {k : Nat} {mb : En → Option Fl} (F : Fun K x qual st f fd) (S : FnScope N ps (defScope st))
    (hbody : ∀ (cdv : Value) (A : Around) (outer : List Env) (s : Shared) (H : Hp) (E : XK), Room k (A.deeper (envOfC qual (defScope st) s.heap.objs.size f cdv)) →
      ∃ t, PSs (cxOf CX0 P w K mg base N qual (defScope st) f cdv A outer s H E).nox (defBody st) t ∧ TSm K t mb) : FnOk P w K mg base CX0 (k + 1) f fd ps (spM K ps.length (mDef N.length mb)) := by
  refine F.ok S (fun vs H Q E h => ?_) (fun cdv A outer s Hx vs Q E hr h => ?_)
  · obtain ⟨ds, d, H, T, g, hn, _⟩ := h
    rw [dpa_len g, hn]
  · obtain ⟨ds, d, H, T, g, hn, hm, rfl, dis, q⟩ := h
    obtain ⟨t, p, m⟩ := hbody cdv A outer s (ov H T) E hr
    refine ⟨t, p, ?_⟩
    obtain ⟨fl, hf, hm⟩ := bind_some hm
    refine m.run (good_start g dis) hf _ ?_
    cases fl with
    | rt d' =>
      cases hm
      intro v H' T' s1 d1 e1 p1
      obtain ⟨H2, e2, s2, d2, s3⟩ := back dis s1 d1 e1
      show Q v (ov H' T')
      rw [e2]
      exact q v H2 s2 d2 (dp_mono s3 p1)
    | nx ρ =>
      cases hm
      intro σ' H' T' G'
      obtain ⟨H2, e2, s2, d2, s3⟩ := back dis G'.ex G'.dis G'.ext
      show Q .non (ov H' T')
      rw [e2]
      exact q _ H2 s2 d2 .non
    | bk ρ => cases hm
    | ct ρ => cases hm
end
end DD

set_option Elab.async false
set_option linter.all false
set_option maxRecDepth 100000
set_option maxHeartbeats 4000000
namespace DD
open PySem PySem.Spec PyProof.Rows L2
def dLt : D → D → Option D := dCmp fun i j => decide (i < j)
def dLe : D → D → Option D := dCmp fun i j => decide (i ≤ j)
def dGt : D → D → Option D := dCmp fun i j => decide (j < i)
def dGe : D → D → Option D := dCmp fun i j => decide (j ≤ i)
def lim (n : Nat) (m : List D → Option D) : List D → Option D := fun ds => if ds.length = n then m ds else none
def mRange1 (m : En → Option (List D)) : En → Option (List D) := mRange fun ρ => (m ρ).bind fun ds => if ds.length = 1 then some ds else none
def mRange2 (m : En → Option (List D)) : En → Option (List D) := mRange fun ρ => (m ρ).bind fun ds => if ds.length = 2 then some ds else none
def mIfL (c : En → Option Bool) (a b : En → Option (List D)) : En → Option (List D) := fun ρ => (c ρ).bind fun x => if x = true then a ρ else b ρ
def mStar (a : En → Option D) (b : En → Option (List D)) : En → Option (List D) := fun ρ => (a ρ).bind fun x => match x with
  | .list ds => (b ρ).map fun r => ds ++ r
  | .tuple ds => (b ρ).map fun r => ds ++ r
  | _ => none
def gLstM (n : Nat) (g : List D → En → Option En) (d : D) (ρ : En) : Option En := match d with
  | .list ds => if ds.length = n then g ds ρ else none
  | _ => none
def sPar3 (i j l : Nat) (a b c : En → Option D) : En → Option Fl := fun ρ => (a ρ).bind fun x => (b ρ).bind fun y => (c ρ).map fun z => .nx (((ρ.set i (some (.val x))).set j (some (.val y))).set l (some (.val z)))
def mCatL (a b : En → Option (List D)) : En → Option (List D) := fun ρ => (a ρ).bind fun x => (b ρ).bind fun y => if x.length + y.length ≤ cap then some (x ++ y) else none
section
variable {K : PySem.W.Frag} {te ta tb tc : TE} {ma mb mc : En → Option D}
theorem rd_lt' : RD K (rI0 fun i j => .bl (decide (i < j))) dLt := rd_lt
theorem rd_le' : RD K (rI0 fun i j => .bl (decide (i ≤ j))) dLe := rd_le
theorem rd_gt' : RD K (rI0 fun i j => .bl (decide (j < i))) dGt := rd_gt
theorem rd_ge' : RD K (rI0 fun i j => .bl (decide (j ≤ i))) dGe := rd_ge
theorem hu65 {A : Around} {k : Nat} (hr : Room k A) : A.units + 65 < cLine := by have := hr.un; omega
theorem pt_tr {X : Cx} {a : Expr} {ta : TE} (ha : PE X a ta) (he : ∀ whole, isTrue a X.env whole = (do let v ← whole; standAt a.pos; holding [v] (truthy v))) : PT X a (tTru X.K ta) := pt_truth ha he
theorem ev_call' {n : Nat} {mf : List D → Option D} {t : TA} {m : En → Option (List D)} {E : XK} (ha : TAm K t m) : ET K (tCall (spM K n mf) [] E t) (mCall (lim n mf) m) := ev_call ha
theorem it_range1' {t : TA} {m : En → Option (List D)} (ha : TAm K t m) : IT K (iRng1 t) (mRange1 m) := it_range1 ha
theorem it_range2' {t : TA} {m : En → Option (List D)} (ha : TAm K t m) : IT K (iRng2 t) (mRange2 m) := it_range2 ha
theorem fl_if {tt : TT} {m1 : En → Option Bool} {m2 m3 : En → Option (List D)} (hc : TTm K tt m1) (ha : FL K ta m2) (hb : FL K tb m3) : FL K (tIf tt ta tb) (mIfL m1 m2 m3) := by
  refine ⟨fun {H0 T0 σ ρ H T d} G h Q q => ?_⟩
  obtain ⟨x, hx, h⟩ := bind_some h
  refine hc.run G hx _ fun H1 s1 d1 => ?_
  cases x with
  | true =>
    rw [if_pos rfl] at h ⊢
    exact ha.run (G.mono s1 d1) h _ fun p xs H2 s2 d2 n2 p2 => q p xs H2 (s1.trans s2) d2 n2 p2
  | false =>
    rw [if_neg Bool.false_ne_true] at h ⊢
    exact hb.run (G.mono s1 d1) h _ fun p xs H2 s2 d2 n2 p2 => q p xs H2 (s1.trans s2) d2 n2 p2
theorem ea_star {t : TA} {m : En → Option (List D)} (ha : ET K ta ma) (hr : TAm K t m) : TAm K (StX.tStar K ta t) (mStar ma m) := by
  refine ⟨fun {H0 T0 σ ρ H T ds} G h Q q => ?_⟩
  obtain ⟨x, hx, h⟩ := bind_some h
  refine ha.run G hx _ fun v H1 s1 d1 p1 => ?_
  split at h
  · obtain ⟨r, hr2, h⟩ := map_some h
    subst h
    obtain ⟨p, xs, rfl, hs, g⟩ := dp_lst p1
    refine ⟨p, xs, rfl, .inr (sql_ov d1 hs), ?_⟩
    exact hr.run (G.mono s1 d1) hr2 _ fun vs H2 s2 d2 p2 => q _ H2 (s1.trans s2) d2 (dpa_append (dpa_mono s2 g) p2)
  · obtain ⟨r, hr2, h⟩ := map_some h
    subst h
    obtain ⟨p, xs, rfl, hs, g⟩ := dp_tup p1
    refine ⟨p, xs, rfl, .inl (sqt_ov d1 hs), ?_⟩
    exact hr.run (G.mono s1 d1) hr2 _ fun vs H2 s2 d2 p2 => q _ H2 (s1.trans s2) d2 (dpa_append (dpa_mono s2 g) p2)
  · cases h
theorem st_par3 {i j l : Nat} (ha : ET K ta ma) (hb : ET K tb mb) (hc : ET K tc mc) : TSm K (tPar3 i j l (tCons ta (tCons tb (tCons tc tNil)))) (sPar3 i j l ma mb mc) := by
  refine ⟨fun {H0 T0 σ ρ H T f} G h E q => ?_⟩
  obtain ⟨x, hx, h⟩ := bind_some h
  obtain ⟨y, hy, h⟩ := bind_some h
  obtain ⟨z, hz, h⟩ := map_some h
  subst h
  refine ha.run G hx _ fun v H1 s1 d1 p1 => ?_
  refine hb.run (G.mono s1 d1) hy _ fun w H2 s2 d2 p2 => ?_
  refine hc.run (G.mono (s1.trans s2) d2) hz _ fun u H3 s3 d3 p3 => ⟨v, w, u, rfl, ?_⟩
  exact q _ H3 T ((((G.mono ((s1.trans s2).trans s3) d3).set (dp_mono (s2.trans s3) p1)).set (dp_mono s3 p2)).set p3)
end
end DD
namespace DD
open PySem PySem.Spec PyProof.Rows L2
def fuelOf (i : Nat) (ρ : En) : Nat := match ρ[i]? with
  | some (some (.val (.int k))) => k.toNat + 1
  | _ => 1
end DD

set_option Elab.async false
set_option linter.all false
set_option maxRecDepth 100000
set_option maxHeartbeats 4000000
namespace DD
open PySem PySem.Spec PyProof.Rows L2

/-! ### head, *rest = a row -/
section
variable {prog : Program} {w : World} {A : Around} {E : Value → Shared → Prop} {s : Shared}
theorem star_items {t : Addr} {items : Array Value} {Q : List Value → Shared → Prop} (hl : IsTup s.heap t items) (hh : A.handled = none) (h1 : 1 ≤ items.size) (hz : items.size ≤ sizeLine)
    (h : ∀ (h' : Heap) (tk : Nat), (∀ b o, s.heap.get? b = some o → h'.get? b = some o) → Q [items.toList.headD .none, .ref h'.objs.size] { s with heap := h'.push { cls := .type "list", data := .seq (items.toList.drop 1).toArray }, toks := tk }) :
    wpAny (model prog w) A (unpackItems (.ref t) 2 (some 1)) Q E s := by
  have hne : t ≠ s.heap.objs.size := by
    obtain ⟨o, ho, _⟩ := hl
    exact Nat.ne_of_lt (Heap.lt_size ho)
  unfold unpackItems notIterableAtAll
  refine wpAny_bind (wpAny_bind (wpAny_specialOf hl.typeIs slot_tuple_iter.lookup (wpAny_pure ?_)))
  simp only [Option.isNone_some, Bool.false_eq_true, if_false]
  refine wpAny_bind (wpAny_holding (iter_tuple hl ?_))
  refine wpAny_bind (wpAny_holding (draw_tuple hne 1 0 _ _ ⟨_, Heap.get?_push_size _ rfl, rfl, rfl⟩ (hl.push _) (by omega) fun g1 st1 same1 => ?_))
  have tup1 : IsTup g1 t items := (hl.push _).extBut same1.extBut hne
  have it1 := st1
  rw [Nat.zero_add] at it1
  obtain ⟨oi, hoi, _⟩ := id it1
  obtain ⟨ot, hot, _⟩ := id tup1
  have hd : List.take 1 (List.drop 0 items.toList) = [items.toList.headD .none] := by
    cases e : items.toList with
    | nil =>
      have hz0 : items.size = 0 := by simpa using congrArg List.length e
      omega
    | cons x r => rfl
  rw [hd]
  rw [if_neg (by show ¬ (1 < 1); omega)]
  refine wpAny_bind (wpAny_holding (PySem.W.kun_collect (s := { s with heap := g1 }) (T := "tuple_iterator") (.inr (.inr (.inr rfl))) (Walks.tuple (A := A.in1) hh s.heap.objs.size t hne items) (fun j u st => st.1.typeIs) (k := 1) h1 ⟨it1, tup1⟩ (Heap.lt_size hoi) (Heap.lt_size hot) (fun g2 tk keep2 => ?_) hz))
  have keep : ∀ b o, s.heap.get? b = some o → g2.get? b = some o := fun b o e => by
    have nb : b ≠ s.heap.objs.size := Nat.ne_of_lt (Heap.lt_size e)
    exact keep2 b o nb (same1.extBut b o nb (Heap.get?_push_of_some _ e))
  have len : (items.toList.drop 1).length = items.size - 1 := by rw [List.length_drop, Array.length_toList]
  show wpAny _ _ (if (items.toList.drop 1).length < 2 - 1 - 1 then _ else _) _ _ _
  rw [if_neg (by omega)]
  show wpAny _ _ (newList ((items.toList.drop 1).take ((items.toList.drop 1).length - (2 - 1 - 1))) >>= fun d => pure ([items.toList.headD .none] ++ [d] ++ (items.toList.drop 1).drop ((items.toList.drop 1).length - (2 - 1 - 1)))) _ _ _
  have e1 : (items.toList.drop 1).take ((items.toList.drop 1).length - (2 - 1 - 1)) = items.toList.drop 1 := List.take_of_length_le (by omega)
  have e2 : (items.toList.drop 1).drop ((items.toList.drop 1).length - (2 - 1 - 1)) = [] := List.drop_of_length_le (by omega)
  rw [e1, e2]
  refine wpAny_bind (wpAny_newList ?_ (by rw [len]; omega))
  exact wpAny_pure (h g2 tk keep)
end
/-- head, *rest = a tuple -/
def gHdRest (K : PySem.W.Frag) (g1 g2 : TG) : TG := fun v σ H Q => ∃ a x xs, v = .ref a ∧ SqT K H a (x :: xs) ∧ ∀ p, H p = none → g1 x σ (upd H p (.lst xs)) fun σ' H' => g2 (.ref p) σ' H' Q
theorem pg_headRest {X : Cx} {e1 e2 : Expr} {g1 g2 : TG} {k : Nat} {p1 pos : Pos} (hc : X.calm = true) (h1 : PG X e1 g1) (h2 : PG X e2 g2)
    (ha : assignEach [e1, .Starred e2 p1] X.env = [(false, assign e1 X.env), (true, assign e2 X.env)] := by rfl) : PG X (.Tuple [e1, .Starred e2 p1] k pos) (gHdRest X.K g1 g2) := by
  refine ⟨fun pins s σ H v u Q I r hw => ?_⟩
  obtain ⟨a, x, xs, e, hq, hw⟩ := hw
  subst e
  cases r
  obtain ⟨its, rv, ht, hz⟩ := I.tuple hq
  rw [PyProof.Rows.assign_Tuple]
  refine wpAny_bind (wpAny_standAt ?_)
  unfold unpack
  rw [ha]
  have hl := rv.length
  refine wpAny_bind (wpAny_holding (star_items ht (I.ok.hd hc) (by rw [List.size_toArray, ← hl]; simp) (by rw [List.size_toArray, ← hl]; exact hz) fun h' tk kp => ?_))
  cases rv with
  | cons r1 r2 =>
    rename_i u1 us
    have I1 : Inv X pins σ H { s with heap := h', toks := tk } := I.kept kp
    have nf : H h'.objs.size = none := I1.hok.fresh (Nat.le_refl _)
    have I2 : Inv X pins σ (upd H h'.objs.size (.lst xs)) { s with heap := h'.push { cls := .type "list", data := .seq (us : List Value).toArray }, toks := tk } :=
      I1.laid (a := h'.objs.size) (o := .lst xs) (h' := h'.push { cls := .type "list", data := .seq (us : List Value).toArray }) (t' := tk) (fun b o e => Heap.get?_push_of_some _ e) (Nat.le_refl _) ⟨Nat.le_trans (Nat.le_succ _) hz, us, 0, r2, Heap.get?_push_size _ rfl⟩
    show wpAny _ _ (assignInOrder [assign e1 X.env, assign e2 X.env] [u1, .ref h'.objs.size]) _ _ _
    refine assignInOrder_cons (thn (h1.run pins _ σ _ x u1 _ I2 r1 (hw _ nf)) fun _ s3 ⟨σ3, H3, I3, q3⟩ => ?_)
    refine assignInOrder_cons (thn (h2.run pins s3 σ3 H3 (.ref h'.objs.size) _ _ I3 rfl q3) fun _ s4 q4 => ?_)
    exact assignInOrder_nil q4
def gHeadRest (m1 m2 : D → En → Option En) (d : D) (ρ : En) : Option En := match d with
  | .tuple (x :: xs) => (m1 x ρ).bind fun ρ1 => m2 (.list xs) ρ1
  | _ => none
section
variable {K : PySem.W.Frag}
theorem tg_headRest {vs : List Nat} {g1 g2 : TG} {m1 m2 : D → En → Option En} (h1 : TGm K vs g1 m1) (h2 : TGm K vs g2 m2) : TGm K vs (gHdRest K g1 g2) (gHeadRest m1 m2) := by
  refine ⟨fun {H0 T0 σ ρ ρ2 H T v d} G g h Q q => ?_⟩
  unfold gHeadRest at h
  split at h
  · rename_i y ys
    obtain ⟨ρ1, e1, h⟩ := bind_some h
    obtain ⟨a, xs, rfl, hs, ga⟩ := dp_tup g
    cases ga with
    | cons gx gr =>
      rename_i x xs
      refine ⟨a, _, _, rfl, sqt_ov G.dis hs, fun p np => ?_⟩
      obtain ⟨nT, nH⟩ := ov_free np
      rw [upd_ov nT]
      have sn : Same H (upd H p (.lst xs)) := same_new nH
      refine h1.run (G.mono sn (dis_upd G.dis nT)) (dp_mono sn gx) e1 _ fun σ3 H3 G3 s3 w3 => ?_
      refine h2.run G3 (dp_mono s3 (.lst (SqL.of upd_same) (dpa_mono sn gr))) h _ fun σ4 H4 G4 s4 w4 => ?_
      exact q σ4 H4 G4 ((sn.trans s3).trans s4) (w4.trans w3)
  · cases h
theorem tg_lst {vs : List Nat} {n : Nat} {gs : TGs} {mr : List D → En → Option En} (h : TGsm K vs gs mr) : TGm K vs (gLst K n gs) (gLstM n mr) := by
  refine ⟨fun {H0 T0 σ ρ ρ2 H T v d} G g e Q q => ?_⟩
  unfold gLstM at e
  split at e
  · split at e
    · rename_i hn
      obtain ⟨p, xs, rfl, hs, ga⟩ := dp_lst g
      exact ⟨p, xs, rfl, sql_ov G.dis hs, by rw [dpa_len ga]; exact hn, h.run G ga e Q q⟩
    · cases e
  · cases e
end
end DD

set_option Elab.async false
set_option linter.all false
set_option maxRecDepth 100000
set_option maxHeartbeats 4000000
namespace DD
open PySem PySem.Spec PyProof.Rows L2

/-! ### zip of two, each a list or a tuple (b: it is a tuple) -/
def SqB (b : Bool) (K : PySem.W.Frag) (H : Hp) (a : Addr) (xs : List V) : Prop := if b = true then SqT K H a xs else SqL K H a xs
def HpB (b : Bool) (h : Heap) (a : Addr) (its : Array Value) : Prop := if b = true then h.IsTuple a its else h.IsList a its
def AtB (b : Bool) (h : Heap) (it a : Addr) (i : Nat) : Prop := if b = true then h.IsTupleIter it a i else h.IsListIter it a i
theorem HpB.at {b : Bool} {h h' : Heap} {a : Addr} {its : Array Value} (x : HpB b h a its) (k : ∀ o, h.get? a = some o → h'.get? a = some o) : HpB b h' a its := by
  cases b
  · exact Heap.IsList.at x k
  · exact Heap.IsTuple.at x k
theorem AtB.at {b : Bool} {h h' : Heap} {it a : Addr} {i : Nat} (x : AtB b h it a i) (k : ∀ o, h.get? it = some o → h'.get? it = some o) : AtB b h' it a i := by
  cases b
  · exact Heap.IsListIter.at x k
  · exact Heap.IsTupleIter.at x k
theorem SqB.get {b : Bool} {X : Cx} {pins : List (Addr × Obj)} {σ : L2.St} {H : Hp} {s : Shared} {a : Addr} {xs : List V} (I : Inv X pins σ H s) (h : SqB b X.K H a xs) : ∃ its : List Value, Vals xs its ∧ HpB b s.heap a its.toArray := by
  cases b
  · obtain ⟨its, rv, p, _⟩ := I.list h
    exact ⟨its, rv, p.isList⟩
  · obtain ⟨its, rv, p, _⟩ := I.tuple h
    exact ⟨its, rv, p⟩
theorem SqB.inj {b : Bool} {X : Cx} {pins : List (Addr × Obj)} {σ : L2.St} {H : Hp} {s : Shared} {a : Addr} {xs ys : List V} (I : Inv X pins σ H s) (h : SqB b X.K H a xs) (h' : SqB b X.K H a ys) : xs = ys := by
  cases b
  · exact I.list_inj h h'
  · exact I.tuple_inj h h'
theorem HpB.lt {b : Bool} {h : Heap} {a : Addr} {its : Array Value} (x : HpB b h a its) : a < h.objs.size := by
  cases b
  · obtain ⟨o, ho, _⟩ : h.IsList a its := x
    exact Heap.lt_size ho
  · obtain ⟨o, ho, _⟩ : h.IsTuple a its := x
    exact Heap.lt_size ho
theorem drawsB {prog : Program} {w : World} {A : Around} (b : Bool) (hh : A.handled = none) (it a : Addr) (hne : a ≠ it) (its : Array Value) :
    Draws prog w A it [it, a] its.size (fun i v => its[i]? = some v) (fun i h => AtB b h it a i ∧ HpB b h a its) := by
  cases b
  · exact Draws.list hh it a hne its
  · exact Draws.tuple hh it a hne its
def beB (b : Bool) (a : Addr) : Obj := { cls := .type (if b = true then "tuple_iterator" else "list_iterator"), data := .fields #[.ref a, .int 0 0] }
theorem beginsB (b : Bool) (a : Addr) (its : Array Value) : Begins (.ref a) (beB b a) fun h => HpB b h a its := by
  cases b
  · exact begins_list a its
  · exact begins_tuple a its
theorem beB_at {b : Bool} {h : Heap} {it a : Addr} (e : h.get? it = some (beB b a)) : AtB b h it a 0 := by
  cases b
  · exact ⟨_, e, rfl, rfl⟩
  · exact ⟨_, e, rfl, rfl⟩
theorem atB_obj {b : Bool} {h : Heap} {it a : Addr} {i : Nat} (x : AtB b h it a i) : ∃ o, h.get? it = some o ∧ ∀ v, o.data ≠ .cell v := by
  cases b
  · obtain ⟨o, e, _, d⟩ : h.IsListIter it a i := x
    exact ⟨o, e, fun v q => by rw [d] at q; cases q⟩
  · obtain ⟨o, e, _, d⟩ : h.IsTupleIter it a i := x
    exact ⟨o, e, fun v q => by rw [d] at q; cases q⟩
theorem apartB {b : Bool} {h : Heap} {a it : Addr} {its : Array Value} {i : Nat} (p : HpB b h a its) (q : AtB b h it a i) : a ≠ it := fun e => by
  subst e
  cases b
  · obtain ⟨o, ho, hc1, _⟩ : h.IsList a its := p
    obtain ⟨o', ho', hc2, _⟩ : h.IsListIter a a i := q
    have e := Option.some.inj (ho.symm.trans ho')
    subst e
    exact absurd (hc1.symm.trans hc2) (by decide +kernel)
  · obtain ⟨o, ho, hc1, _⟩ : h.IsTuple a its := p
    obtain ⟨o', ho', hc2, _⟩ : h.IsTupleIter a a i := q
    have e := Option.some.inj (ho.symm.trans ho')
    subst e
    exact absurd (hc1.symm.trans hc2) (by decide +kernel)
def Izz (K : PySem.W.Frag) (b1 b2 : Bool) (a b : Addr) : It :=
  ⟨fun i H => ∃ (xs ys : List V) (x y : V), SqB b1 K H a xs ∧ SqB b2 K H b ys ∧ xs[i]? = some x ∧ ys[i]? = some y,
    fun i H v H' => ∃ T x y, v = .ref T ∧ H T = none ∧ H' = upd H T (.tup [x, y]) ∧ (∀ xs, SqB b1 K H a xs → xs[i]? = some x) ∧ ∀ ys, SqB b2 K H b ys → ys[i]? = some y,
    fun i H => ∃ xs ys : List V, SqB b1 K H a xs ∧ SqB b2 K H b ys ∧ i = min xs.length ys.length⟩
theorem turn_zz {P : Program} {w : World} {K : PySem.W.Frag} {elts : List Expr} {kk : Nat} {tpos : Pos} {b1 b2 : Bool} {a b z TI TO i1 i2 : Addr} (D : ZipSep2 z TI TO i1 i2 [i1, a] [i2, b]) :
    Turn P w K (.Tuple elts kk tpos) (Izz K b1 b2 a b) [z, TI, TO, i1, i2] z (fun i h => IsZip h z TI TO .none ∧ IsTupOf2 h TI (.ref i1) (.ref i2) ∧ (∃ x y, IsTupOf2 h TO x y) ∧ AtB b1 h i1 a i ∧ AtB b2 h i2 b i) where
  mem := by simp
  obj := fun i h st c hc => by
    obtain ⟨hz, hTI, ⟨x, y, hTO⟩, h1, h2⟩ := st
    simp only [List.mem_cons, List.not_mem_nil, or_false] at hc
    rcases hc with rfl | rfl | rfl | rfl | rfl
    · exact ⟨_, hz, fun v q => nomatch q⟩
    · exact ⟨_, hTI, fun v q => nomatch q⟩
    · exact ⟨_, hTO, fun v q => nomatch q⟩
    · exact atB_obj h1
    · exact atB_obj h2
  keep := fun i h h' st k => by
    obtain ⟨hz, hTI, ⟨x, y, hTO⟩, h1, h2⟩ := st
    exact ⟨k z (by simp) _ hz, k TI (by simp) _ hTI, ⟨x, y, k TO (by simp) _ hTO⟩, h1.at fun o q => k i1 (by simp) o q, h2.at fun o q => k i2 (by simp) o q⟩
  item := by
    intro X hP hw hK hc i pins s σ H E I hf st hg
    subst hP hw hK
    obtain ⟨hz, hTI, ⟨x0, y0, hTO⟩, h1, h2⟩ := st
    obtain ⟨xs, ys, x, y, hqx, hqy, hx, hy⟩ := hg
    obtain ⟨its, rv, p⟩ := hqx.get I
    obtain ⟨its2, rv2, p2⟩ := hqy.get I
    obtain ⟨u, hu, ru⟩ := rv.get hx
    obtain ⟨u2, hu2, ru2⟩ := rv2.get hy
    have hzl : z < s.heap.objs.size := Heap.lt_size hz
    have na : a ≠ i1 := apartB p h1
    have nb : b ≠ i2 := apartB p2 h2
    have hh : X.A.in1.handled = none := I.ok.hd hc
    have j1 : i < its.toArray.size := by obtain ⟨q, _⟩ := List.getElem?_eq_some_iff.mp hu; simpa using q
    have j2 : i < its2.toArray.size := by obtain ⟨q, _⟩ := List.getElem?_eq_some_iff.mp hu2; simpa using q
    refine wpAny_pyNext_zipD2_item D (drawsB b1 hh i1 a na its.toArray) (drawsB b2 hh i2 b nb its2.toArray) hz hTI hTO ⟨h1, p⟩ ⟨h2, p2⟩ j1 j2 fun x1 x2 h' tk e1 e2 z' TO' h1' h2' hT hsz hk => ?_
    have e3 : x1 = u := by
      have : its.toArray[i]? = some u := by simpa using hu
      rw [this] at e1; exact (Option.some.inj e1).symm
    have e4 : x2 = u2 := by
      have : its2.toArray[i]? = some u2 := by simpa using hu2
      rw [this] at e2; exact (Option.some.inj e2).symm
    subst e3 e4
    refine ⟨_, rfl, wpAny_letOwnedTupleGo_zip (s := { s with heap := h', toks := tk }) z' fun h'' z'' sb => ?_⟩
    have hT2 : h''.get? s.heap.objs.size = some { cls := .type "tuple", data := .seq #[x1, x2] } := (sb.2 _ (Nat.ne_of_gt hzl)).trans hT
    have new : ObjOk X.prog X.w (upd H s.heap.objs.size (.tup [x, y])) h'' s.heap.objs.size (.tup [x, y]) :=
      ⟨by show 2 ≤ sizeLine; decide, [x1, x2], .cons ru (.cons ru2 .nil), ⟨_, hT2, rfl, _, rfl⟩⟩
    have I1 : Inv X pins σ (upd H s.heap.objs.size (.tup [x, y])) { s with heap := h'', toks := tk } :=
      I.turnedNew (t' := tk) (ch := [z, TI, TO, i1, i2]) (fun c o hb q => (sb.2 c (fun q' => hb (by simp [q']))).trans (hk c o (fun q' => hb (by simp [q'])) (fun q' => hb (by simp [q'])) (fun q' => hb (by simp [q'])) (fun q' => hb (by simp [q'])) q)) hf (Nat.le_refl _) new
    refine ⟨.ref s.heap.objs.size, _, I1, rfl, ⟨_, x, y, rfl, I.hok.fresh (Nat.le_refl _), rfl, fun l hl => by rw [hl.inj I hqx]; exact hx, fun l hl => by rw [hl.inj I hqy]; exact hy⟩, ⟨z'', ?_, ⟨x1, x2, ?_⟩, ?_, ?_⟩, fun c hcm => ?_⟩
    · exact (sb.2 _ D.TIz).trans (hk _ _ D.TIz D.TITO D.TIi1 D.TIi2 hTI)
    · exact (sb.2 _ D.TOz).trans TO'
    · exact h1'.1.at fun o q => (sb.2 _ D.zi1.symm).trans q
    · exact h2'.1.at fun o q => (sb.2 _ D.zi2.symm).trans q
    · have hlt : c < s.heap.objs.size := by
        obtain ⟨o1, w1, _⟩ := atB_obj h1
        obtain ⟨o2, w2, _⟩ := atB_obj h2
        simp only [List.mem_cons, List.not_mem_nil, or_false] at hcm
        rcases hcm with q | q | q | q | q
        · rw [q]; exact hzl
        · rw [q]; exact Heap.lt_size hTI
        · rw [q]; exact Heap.lt_size hTO
        · rw [q]; exact Heap.lt_size w1
        · rw [q]; exact Heap.lt_size w2
      rw [upd_ne (Nat.ne_of_lt hlt)]
      exact (hf c hcm).1
  done := by
    intro X hP hw hK hc i pins s σ H E I hf st hg
    subst hP hw hK
    obtain ⟨hz, hTI, ⟨x0, y0, hTO⟩, h1, h2⟩ := st
    obtain ⟨xs, ys, hqx, hqy, hend⟩ := hg
    obtain ⟨its, rv, p⟩ := hqx.get I
    obtain ⟨its2, rv2, p2⟩ := hqy.get I
    have l1 := rv.length
    have l2 := rv2.length
    have na : a ≠ i1 := apartB p h1
    have nb : b ≠ i2 := apartB p2 h2
    have hh : X.A.in1.handled = none := I.ok.hd hc
    refine wpAny_pyNext_zipD2_end D (drawsB b1 hh i1 a na its.toArray) (drawsB b2 hh i2 b nb its2.toArray) hz hTI hTO ⟨h1, p⟩ ⟨h2, p2⟩ (by simp; omega) (by simp; omega) (by simp; omega)
      fun h' tk hk => ⟨rfl, I.turnedL (t' := tk) (ch := [z, TI, TO, i1, i2]) (fun c o hb q => hk c o (fun q' => hb (by simp [q'])) (fun q' => hb (by simp [q'])) (fun q' => hb (by simp [q'])) (fun q' => hb (by simp [q'])) q) hf⟩
  self := fun A i s Q E st h => wpAny_pyIter_zip st.1 h
def iZz (K : PySem.W.Frag) (ta : TA) : TI := fun σ H R => ta σ H fun vs H1 => ∃ a b xs ys b1 b2, vs = [.ref a, .ref b] ∧ SqB b1 K H1 a xs ∧ SqB b2 K H1 b ys ∧ R (Izz K b1 b2 a b) H1
theorem pi_zipX {X : Cx} {e e2 : Expr} {ta : TA} {p pos tpos : Pos} {elts : List Expr} {kk : Nat} (hg : Gl X "zip") (hm : X.mg "zip" = none) (ha : PA X [e, e2] ta)
    (hs : starEach [e, e2] X.env = (false, eval e X.env) :: starEach [e2] X.env := by rfl) (hpl : (backTo pos (starEach [e2] X.env)).any (·.1) = false := by rfl) :
    PI X (.Tuple elts kk tpos) (.Call (.Name "zip" p) [e, e2] [] pos) (iZz X.K ta) := by
  refine ⟨fun pins s σ H R I h => ?_⟩
  refine Call_ (ld_blt I hg hm PyProof.Rows.boot_zip (PyProof.Rows.callWith_type1 (thn (ha.run pos pins s σ H _ I h) fun us s1 ⟨vs, H1, I1, r1, q1⟩ => ?_) hs hpl))
  obtain ⟨a, b, xs, ys, b1, b2, ex, hqx, hqy, q⟩ := q1
  subst ex
  cases r1 with
  | cons r rr =>
    cases rr with
    | cons r' rr =>
      cases rr
      cases r
      cases r'
      obtain ⟨its, rv, p1⟩ := hqx.get I1
      obtain ⟨its2, rv2, p2⟩ := hqy.get I1
      refine zip_begins2 (beginsB b1 a its.toArray) (beginsB b2 b its2.toArray) p1 p2 fun h' hz hTI hTO g1 g2 hsz hk => wpAny_pyIter_zip hz ?_
      have I2 : Inv X pins σ H1 { s1 with heap := h' } := I1.kept (t' := s1.toks) hk
      have D : ZipSep2 (s1.heap.objs.size + 4) (s1.heap.objs.size + 2) (s1.heap.objs.size + 3) s1.heap.objs.size (s1.heap.objs.size + 1) [s1.heap.objs.size, a] [s1.heap.objs.size + 1, b] :=
        zip_sep2 (fun c hc => by rw [List.mem_singleton.mp hc]; exact p1.lt) (fun c hc => by rw [List.mem_singleton.mp hc]; exact p2.lt)
      refine ⟨s1.heap.objs.size + 4, [s1.heap.objs.size + 4, s1.heap.objs.size + 2, s1.heap.objs.size + 3, s1.heap.objs.size, s1.heap.objs.size + 1], _, _, H1, rfl, I2, turn_zz D, ⟨hz, hTI, ⟨_, _, hTO⟩, beB_at g1, beB_at g2⟩, fun c hcm => ?_, q⟩
      have hle : s1.heap.objs.size ≤ c := by
        simp only [List.mem_cons, List.not_mem_nil, or_false] at hcm
        rcases hcm with e | e | e | e | e
        · rw [e]; exact Nat.le_add_right _ _
        · rw [e]; exact Nat.le_add_right _ _
        · rw [e]; exact Nat.le_add_right _ _
        · exact Nat.le_of_eq e.symm
        · rw [e]; exact Nat.le_add_right _ _
      exact I1.fpOk hle (I1.hok.fresh hle)

def pairs : List D → List D → List D
  | x :: xs, y :: ys => .tuple [x, y] :: pairs xs ys
  | _, _ => []
def seqD : D → Option (Bool × List D)
  | .list xs => some (false, xs)
  | .tuple xs => some (true, xs)
  | _ => none
def mZip (m : En → Option (List D)) : En → Option (List D) := fun ρ => (m ρ).bind fun ds => match ds with
  | [a, b] => (seqD a).bind fun x => (seqD b).map fun y => pairs x.2 y.2
  | _ => none
theorem pairs_len : ∀ xs ys : List D, (pairs xs ys).length = min xs.length ys.length
  | [], _ => by simp [pairs]
  | _ :: _, [] => by simp [pairs]
  | x :: xs, y :: ys => by simp [pairs, pairs_len xs ys]
theorem pairs_get : ∀ {xs ys : List D} {i : Nat} {d : D}, (pairs xs ys)[i]? = some d → ∃ x y, xs[i]? = some x ∧ ys[i]? = some y ∧ d = .tuple [x, y]
  | [], _, _, _, h => by simp [pairs] at h
  | _ :: _, [], _, _, h => by simp [pairs] at h
  | x :: xs, y :: ys, 0, d, h => by simp [pairs] at h; exact ⟨x, y, rfl, rfl, h.symm⟩
  | x :: xs, y :: ys, i + 1, d, h => by simp [pairs] at h; simpa using pairs_get h
theorem seqD_sq {K : PySem.W.Frag} {H : Hp} {v : V} {d : D} {b : Bool} {ds : List D} (h : Dp K H v d) (e : seqD d = some (b, ds)) : ∃ a xs, v = .ref a ∧ SqB b K H a xs ∧ DpAll K H xs ds := by
  cases d <;> simp [seqD] at e
  · obtain ⟨rfl, rfl⟩ := e
    obtain ⟨p, xs, rfl, hs, g⟩ := dp_lst h
    exact ⟨p, xs, rfl, hs, g⟩
  · obtain ⟨rfl, rfl⟩ := e
    obtain ⟨p, xs, rfl, hs, g⟩ := dp_tup h
    exact ⟨p, xs, rfl, hs, g⟩
theorem sqb_same {b : Bool} {K : PySem.W.Frag} {H H' : Hp} {a : Addr} {xs : List V} (e : Same H H') (h : SqB b K H a xs) : SqB b K H' a xs := by
  cases b
  · exact e.seq h
  · exact Same.sqt e h
theorem it_zipX {K : PySem.W.Frag} {ta : TA} {m : En → Option (List D)} (ha : TAm K ta m) : IT K (iZz K ta) (mZip m) := by
  refine ⟨fun {H0 T0 σ ρ H T ds} G h R q => ?_⟩
  obtain ⟨as, hx, h⟩ := bind_some h
  refine ha.run G hx _ fun vs H1 s1 d1 p1 => ?_
  split at h
  · rename_i da db
    obtain ⟨⟨b1, xs⟩, e1, h⟩ := bind_some h
    obtain ⟨⟨b2, ys⟩, e2, h⟩ := map_some h
    subst h
    obtain ⟨u, v, rfl, gu, gv⟩ := dpa_two p1
    obtain ⟨a, vx, rfl, hsx, gx⟩ := seqD_sq gu e1
    obtain ⟨b, vy, rfl, hsy, gy⟩ := seqD_sq gv e2
    have lx := dpa_len gx
    have ly := dpa_len gy
    refine ⟨a, b, vx, vy, b1, b2, rfl, sqb_same (same_ov d1) hsx, sqb_same (same_ov d1) hsy, q _ H1 s1 d1 ⟨fun {H T} i sm dis hi => ?_, fun {H T} sm dis => ?_, fun {H T} i {x Hc d} sm dis hd y => ?_⟩⟩
    · rw [pairs_len] at hi
      have i1 : i < vx.length := by rw [lx]; simp at hi; omega
      have i2 : i < vy.length := by rw [ly]; simp at hi; omega
      exact ⟨vx, vy, vx[i], vy[i], sqb_same (same_ov dis) (sqb_same sm hsx), sqb_same (same_ov dis) (sqb_same sm hsy), by simp [i1], by simp [i2]⟩
    · exact ⟨vx, vy, sqb_same (same_ov dis) (sqb_same sm hsx), sqb_same (same_ov dis) (sqb_same sm hsy), by rw [pairs_len, lx, ly]⟩
    · obtain ⟨p, xx, yy, rfl, np, rfl, ex, ey⟩ := y
      obtain ⟨dx, dy, hdx, hdy, rfl⟩ := pairs_get hd
      obtain ⟨wx, hwx, gwx⟩ := dpa_get gx hdx
      obtain ⟨wy, hwy, gwy⟩ := dpa_get gy hdy
      have := ex vx (sqb_same (same_ov dis) (sqb_same sm hsx))
      rw [hwx] at this
      cases this
      have := ey vy (sqb_same (same_ov dis) (sqb_same sm hsy))
      rw [hwy] at this
      cases this
      obtain ⟨nT, nH⟩ := ov_free np
      have sn : Same H (upd H p (.tup [xx, yy])) := same_new nH
      exact ⟨_, upd_ov nT, sn, dis_upd dis nT, .tup (.inl (.of upd_same)) (.cons (dp_mono sn (dp_mono sm gwx)) (.cons (dp_mono sn (dp_mono sm gwy)) .nil))⟩
  · cases h
end DD

set_option Elab.async false
set_option linter.all false
set_option maxRecDepth 100000
set_option maxHeartbeats 4000000
namespace DD
open PySem PySem.Spec PyProof.Rows L2

/-! ### set(a list of ints), with what its order asks -/
section
variable {P : Program} {w : World} {A : Around} {E : Value → Shared → Prop} {s : Shared}
abbrev set0 (w : World) : Obj := { cls := .type "set", dict := none, data := .set #[] 0 (.fresh 0 0 (!w.params.followText "set-order")) }
/-- the step that fills the new set at N from the list at l -/
theorem fill_list {h0 : Heap} {l : Addr} {items : Array Value} (ns : List Int) (hh : A.handled = none) (hl : (h0.push (set0 w)).IsList l items) (hlt : l < h0.objs.size) (hi : IntsAre items.toList ns) (hb : ns.length + 1 < scanBound) {R : Result → Shared → Prop} {t : Shared} (ht : t.heap = h0.push (set0 w))
    (h : ∀ (h' : Heap) (tk c : Nat), SetR w h' h0.objs.size (fun j => decide (j ∈ ns)) c → c ≤ ns.length → (∀ b o, h0.get? b = some o → h'.get? b = some o) → R (.ok (.ret .none)) { t with heap := h', toks := tk }) :
    codeAny (model P w) A.in1.in1 (.builtin "set.update.loop" ⟨[.ref h0.objs.size, .ref (h0.push (set0 w)).objs.size], []⟩) R { t with heap := (h0.push (set0 w)).push { cls := .type "list_iterator", data := .fields #[.ref l, .int 0 0] } } := by
  have size1 : (h0.push (set0 w)).objs.size = h0.objs.size + 1 := Heap.size_push ..
  have len : items.size = ns.length := by
    have q := IntsAre.length hi
    rwa [Array.length_toList] at q
  have ne1 : l ≠ (h0.push (set0 w)).objs.size := by rw [size1]; exact Nat.ne_of_lt (Nat.lt_succ_of_lt hlt)
  have out : h0.objs.size ∉ [(h0.push (set0 w)).objs.size, l] := by
    rw [size1]
    intro m
    simp only [List.mem_cons, List.not_mem_nil, or_false] at m
    rcases m with m | m
    · exact absurd m (Nat.ne_of_lt (Nat.lt_succ_self _))
    · exact absurd m (Nat.ne_of_gt hlt)
  have at0 : ((h0.push (set0 w)).push { cls := .type "list_iterator", data := .fields #[.ref l, .int 0 0] }).get? h0.objs.size = some (set0 w) := Heap.get?_push_of_some _ (Heap.get?_push_size _ rfl)
  refine set_update_ints (P := P) (w := w) ((Walks.list (A := A.in1.in1.in1) (by simpa using hh) _ l ne1 items).toS) h0.objs.size out ns len hb (fun i v e => ?_) (items.size - 0) 0 _ (by omega) (Nat.zero_le _)
    ⟨⟨_, Heap.get?_push_size _ rfl, rfl, rfl⟩, hl.push _⟩ ⟨0, Nat.le_refl 0, setR_new_at at0⟩ fun s' c hm hc hS => ?_
  · have hil : i < ns.length := by rw [← len]; exact (Array.getElem?_eq_some_iff.mp e).1
    obtain ⟨tk, e2⟩ := IntsAre.int_at hi i v (by rw [Array.getElem?_toList]; exact e)
    refine ⟨ns[i], tk, List.getElem?_eq_getElem hil, ?_⟩
    rw [e2, List.getD_eq_getElem?_getD, List.getElem?_eq_getElem hil]
    rfl
  · obtain ⟨h', g', d', tk', os'⟩ := s'
    obtain rfl : g' = t.gens := hm.gens
    obtain rfl : d' = t.drawn := hm.drawn
    obtain rfl : os' = t.os := hm.os
    refine h h' tk' c hS (by rw [← len]; exact hc) fun b o e => hm.heap b o ?_ (Heap.get?_push_of_some _ (Heap.get?_push_of_some _ e))
    have lt := Heap.lt_size e
    rw [size1]
    intro m
    simp only [List.mem_cons, List.not_mem_nil, or_false] at m
    rcases m with m | m
    · exact absurd m (Nat.ne_of_lt lt)
    · exact absurd m (Nat.ne_of_lt (Nat.lt_succ_of_lt lt))
theorem call_setI {l : Addr} {items : Array Value} (ns : List Int) {Q : Value → Shared → Prop} (hh : A.handled = none) (hl : s.heap.IsList l items) (hit : IntsAre items.toList ns) (hb : ns.length + 1 < scanBound)
    (h : ∀ (h' : Heap) (tk c : Nat), SetR w h' s.heap.objs.size (fun j => decide (j ∈ ns)) c → c ≤ ns.length → (∀ b o, s.heap.get? b = some o → h'.get? b = some o) → Q (.ref s.heap.objs.size) { s with heap := h', toks := tk }) :
    wpAny (model P w) A (call (.type "set") [.ref l]) Q E s := by
  obtain ⟨c0, tl, hmro⟩ := F.called_set.mro
  have h0 := F.called_set.made
  have h1 := F.called_set.notType
  have h2 := F.called_set.canCreate
  have h3 := F.called_set.sub
  have h4 := F.typeCall_set_1 (.ref l)
  refine wpAny_call (codeAny_of_tree (show wpAny _ _ (callAny (.type "set") _) _ _ _ from wpAny_pure ⟨Code.quiet_builtin _ (by decide +kernel), codeAny_builtin F.entry_type_call ?_⟩))
  rw [Around.under_plain (weight_type_call_type "set" [.ref l] []) rfl]
  repeat (any_goals (first | assumption | wp_step))
  refine codeAny_mono (code_set_led1 (.ref l) (E := E) (Q₁ := fun obj s₁ => obj = .ref s.heap.objs.size ∧ s₁ = { s with heap := s.heap.push (set0 w) }) ⟨rfl, rfl⟩) fun r s₁ hr => ?_
  cases r with
  | error e => exact hr
  | ok fl =>
    cases fl with
    | ret obj =>
      obtain ⟨rfl, rfl⟩ := hr
      have at0 : (s.heap.push (set0 w)).get? s.heap.objs.size = some (set0 w) := Heap.get?_push_size _ rfl
      have ty : Shared.TypeIs { s with heap := s.heap.push (set0 w) } (.ref s.heap.objs.size) "set" := ⟨_, at0, rfl⟩
      have h5 := F.called_set.init.lookup
      have h6 := F.called_set.init.bind (.ref s.heap.objs.size)
      repeat (any_goals (first | assumption | wp_step))
      refine codeAny_mono (codeAny_call_builtin (R := wants (fun r s₂ => r = .none ∧ ∃ h' tk c, s₂ = { s with heap := h', toks := tk } ∧ SetR w h' s.heap.objs.size (fun j => decide (j ∈ ns)) c ∧ c ≤ ns.length ∧
          (∀ b o, s.heap.get? b = some o → h'.get? b = some o)) E) F.called_set.init.plain F.entry_set_init (check_set_init_1 ty ?_)) fun r₂ s₂ hr₂ => ?_
      · obtain ⟨⟨ocls, odict, odata, oslots⟩, hol, hcl, nl, hdl⟩ := hl
        simp only at hcl hdl
        subst hcl hdl
        have hol' : (s.heap.push (set0 w)).get? l = some { cls := .type "list", dict := odict, data := .seq items nl, slots := oslots } := Heap.get?_push_of_some _ hol
        have h7 := F.sub_list_set
        have h8 := F.sub_list_frozenset
        have h9 : (Value.type "list" == Value.type "dict") = false := by decide
        have hL : (s.heap.push (set0 w)).IsList l items := ⟨_, hol', rfl, nl, rfl⟩
        unfold Builtin.«set.__init__» noKeywords Builtin.Frozenset.updateFrom
        generalize hPI : pyIter = PI
        wp_walk
        subst hPI
        refine wpAny_pyIter_list hL (wpAny_bind (wpAny_runValue ?_))
        refine fill_list (A := A) (t := { s with heap := s.heap.push (set0 w) }) ns hh hL (Heap.lt_size hol) hit hb rfl fun h' tk c hS hc hk => ?_
        refine wpAny_pure ?_
        show wpAny _ _ (ret Value.none) _ _ _
        exact wpAny_pure ⟨rfl, h', tk, c, rfl, hS, hc, hk⟩
      · cases r₂ with
        | error e => exact hr₂
        | ok fl₂ =>
          cases fl₂ with
          | ret r =>
            obtain ⟨rfl, h', tk, c, rfl, hS, hc, hk⟩ := hr₂
            repeat (any_goals (first | assumption | wp_step))
            exact h _ _ _ hS hc hk
          | _ => exact hr₂.elim
    | _ => exact hr.elim
end
end DD

set_option Elab.async false
set_option linter.all false
set_option maxRecDepth 100000
set_option maxHeartbeats 4000000
namespace DD
open PySem PySem.Spec PyProof.Rows L2

/-! ### l.extend(a tuple), a list + a list -/
theorem ext_tup (l : Addr) (items : Array Value) (n : Nat) (b : Addr) (items2 : Array Value) (n2 : Nat) (dd : Option Addr) (sl : Array (Option Value)) (c0 : ¬(!items.isEmpty && Builtin.List.listTooLong (items.size + items2.size)) = true) (c1 : items.size ≤ sizeLine) (c2 : items.size + items2.size ≤ sizeLine + 1) :
    Meets (Builtin.«list.extend» ⟨[.ref l, .ref b], []⟩) (fun _ R s => s.heap.get? l = some { cls := .type "list", dict := none, data := .seq items n, slots := #[] } ∧ s.heap.get? b = some { cls := .type "tuple", dict := dd, data := .seq items2 n2, slots := sl } ∧
      R (.ok (.ret Value.none)) { s with heap := s.heap.update l (Obj.mapSeq fun x => x ++ items2) }) :=
  .of_wp fun prog w A R s h => by
    obtain ⟨hp, g, d, tk, os⟩ := s
    obtain ⟨hl, hb, h⟩ := h
    have f1 := AutoSeq1.sub_tuple_tuple
    have f2 := AutoSeq1.sub_list_list
    have f3 := AutoSeq1.sub_tuple_list
    have f4 := AutoSeq1.sub_list_tuple
    have f5 : (items ++ items2).size ≤ sizeLine + 1 := by rw [Array.size_append]; exact c2
    wp_walk using (wpAny_updateSeq hl rfl (hz := c1) (_hz' := f5)), wpAny_loadPart' hl, wpAny_loadPart' hb
    exact ⟨_, rfl, h⟩
section
variable {X : Cx}
def rExtendA (K : PySem.W.Frag) : V → List V → Hp → VK → Prop := fun x vs H Q => ∃ l b xs zs, x = .ref l ∧ vs = [.ref b] ∧ H l = some (.lst xs) ∧ SqT K H b zs ∧ xs.length + zs.length ≤ sizeLine ∧ Q .non (upd H l (.lst (xs ++ zs)))
theorem mt_extendA : MtM X "list.extend" (rExtendA X.K) := by
  intro pins s σ H x vs v us Q I rx rv h
  obtain ⟨l, b, xs, zs, rfl, rfl, hH, hB, hz, q⟩ := h
  cases rx
  obtain ⟨u, rfl, ru⟩ := rv.one
  cases ru
  obtain ⟨z, its, n, r, hl, e⟩ := I.lstM hH
  obtain ⟨its2, r2, ⟨⟨cls2, dd2, data2, sl2⟩, e2, hc2, n2, hd2⟩, z2⟩ := I.tuple hB
  simp only at hc2 hd2
  subst hc2 hd2
  have l2 := r2.length
  have sz : its.toArray.size + its2.toArray.size ≤ sizeLine := by rw [List.size_toArray, List.size_toArray]; omega
  have nl : ¬ (!its.toArray.isEmpty && Builtin.List.listTooLong (its.toArray.size + its2.toArray.size)) = true := by
    rw [notLongL sz, Bool.and_false]
    exact Bool.false_ne_true
  refine call_meets F.slot_list_extend ⟨_, e, rfl⟩ F.entry_list_extend (F.args_list_extend_2 _ _)
    (ext_tup l its.toArray n b its2.toArray n2 dd2 sl2 nl (by omega) (by omega)) ⟨e, e2, ?_⟩
  refine ⟨.non, _, I.lset (its' := its ++ its2) hH e (by simp) (r.append r2) ?_, rfl, q⟩
  rw [List.length_append]
  omega
def rCatX (K : PySem.W.Frag) : R2 := fun x y H Q => ∃ l b xs zs, x = .ref l ∧ y = .ref b ∧ SqL K H l xs ∧ SqL K H b zs ∧ xs.length + zs.length ≤ sizeLine ∧ ∀ p, H p = none → Q (.ref p) (upd H p (.lst (xs ++ zs)))
theorem op_catX : OpR X (binaryOp .Add) (rCatX X.K) := by
  intro pins s σ H x y v u Q I rx ry h
  obtain ⟨l, b, xs, zs, rfl, rfl, hH, hB, hz, q⟩ := h
  cases rx
  cases ry
  obtain ⟨its, r, ⟨⟨c1, dd1, data1, sl1⟩, n, e, hc1, hn1, hd1⟩, z1⟩ := I.list hH
  obtain ⟨its2, r2, ⟨⟨c2, dd2, data2, sl2⟩, n2, e2, hc2, hn2, hd2⟩, z2⟩ := I.list hB
  simp only at hc1 hd1 hc2 hd2
  subst hc1 hd1 hc2 hd2
  have l1 := r.length
  have l2 := r2.length
  refine concat_meets ⟨_, e, rfl⟩ ⟨_, e2, rfl⟩ noFill_list_add seq_list_add PySem.F.slot_list_add PySem.F.entry_list_add (PySem.F.args_list_add_2 _ _) (list_addW l b its.toArray its2.toArray n n2 dd1 dd2 sl1 sl2 (by simp; omega)) ⟨e, e2, ?_⟩
  have ea : its.toArray ++ its2.toArray = (its ++ its2).toArray := by simp
  rw [ea]
  exact ⟨.ref s.heap.objs.size, upd H s.heap.objs.size (.lst (xs ++ zs)), I.laid (t' := s.toks) (fun _ _ z => Heap.get?_push_of_some _ z) (Nat.le_refl _) ⟨by rw [List.length_append]; exact hz, its ++ its2, 0, r.append r2, Heap.get?_push_size _ rfl⟩, rfl, q _ (I.hok.fresh (Nat.le_refl _))⟩
end
section
variable {K : PySem.W.Frag}
def sExtendA (i : Nat) (a : En → Option D) : En → Option Fl := fun ρ => match ρ[i]? with
  | some (some (.own ds)) => (a ρ).bind fun x => match x with
    | .tuple es => if ds.length + es.length ≤ cap then some (.nx (ρ.set i (some (.own (ds ++ es))))) else none
    | _ => none
  | _ => none
theorem st_extendA {i : Nat} {te : TE} {ma : En → Option D} (ha : ET K te ma) : TSm K (tDrop (tBM K "list" (rExtendA K) (tVar i) (tCons te tNil))) (sExtendA i ma) := by
  refine ⟨fun {H0 T0 σ ρ H T f} G h E q => ?_⟩
  unfold sExtendA at h
  split at h
  · rename_i ds e
    obtain ⟨x, hx, h⟩ := bind_some h
    split at h
    · rename_i es
      split at h
      · rename_i hz
        cases h
        obtain ⟨p, xs, a, b, c, g⟩ := G.own i ds e
        refine ⟨.ref p, a, .inl ⟨rfl, xs, SqL.of (ov_own b)⟩, ?_⟩
        refine ha.run G hx _ fun v H1 s1 d1 p1 => ?_
        obtain ⟨pt, zs, rfl, hs, gz⟩ := dp_tup p1
        have G1 := G.mono s1 d1
        have gx := dpa_mono s1 g
        refine ⟨p, pt, xs, zs, rfl, rfl, ov_own b, sqt_ov d1 hs, ?_, ?_⟩
        · rw [dpa_len gx, dpa_len gz]
          exact cap_line hz
        · rw [upd_put]
          exact q _ H1 _ (G1.turn e a b (dpa_append gx gz))
      · cases h
    · cases h
  · cases h
def mCatV (a : En → Option D) (b : En → Option (List D)) : En → Option (List D) := fun ρ => (a ρ).bind fun x => (b ρ).bind fun y => match x with
  | .list xs => if xs.length + y.length ≤ cap then some (xs ++ y) else none
  | _ => none
theorem fl_catV {ta tb : TE} {ma : En → Option D} {mb : En → Option (List D)} (ha : ET K ta ma) (hb : FL K tb mb) : FL K (tOp (rCatX K) ta tb) (mCatV ma mb) := by
  refine ⟨fun {H0 T0 σ ρ H T out} G h Q q => ?_⟩
  obtain ⟨x, hx, h⟩ := bind_some h
  obtain ⟨y, hy, h⟩ := bind_some h
  refine ha.run G hx _ fun v H1 s1 d1 p1 => ?_
  refine hb.run (G.mono s1 d1) hy _ fun p xs H2 s2 d2 np g2 => ?_
  split at h
  · split at h
    · rename_i hz
      cases h
      obtain ⟨a, us, rfl, hs, gu⟩ := dp_lst (dp_mono s2 p1)
      obtain ⟨nT, nH⟩ := ov_free np
      have sn : Same H2 (upd H2 p (.lst xs)) := same_new nH
      rw [upd_ov nT]
      refine ⟨a, p, us, xs, rfl, rfl, sql_ov (dis_upd d2 nT) (sn.seq hs), sql_ov (dis_upd d2 nT) (.of upd_same), by rw [dpa_len gu, dpa_len g2]; exact cap_line hz, fun p2 np2 => ?_⟩
      obtain ⟨nT2, nH2⟩ := ov_free np2
      exact q p2 _ _ ((s1.trans s2).trans sn) (dis_upd d2 nT) np2 (dpa_append (dpa_mono sn gu) (dpa_mono sn g2))
    · cases h
  · cases h
theorem fl_cat {ta tb : TE} {ma mb : En → Option (List D)} (ha : FL K ta ma) (hb : FL K tb mb) : FL K (tOp (rCatX K) ta tb) (mCatL ma mb) := by
  refine ⟨fun {H0 T0 σ ρ H T out} G h Q q => ?_⟩
  obtain ⟨x, hx, h⟩ := bind_some h
  obtain ⟨y, hy, h⟩ := bind_some h
  refine fl_catV (ev_list ha) hb |>.run G (ds := out) ?_ Q q
  show ((ma ρ).map PyData.list).bind _ = _
  rw [hx]
  show (mb ρ).bind _ = _
  rw [hy]
  exact h
end
end DD

set_option Elab.async false
set_option linter.all false
set_option maxRecDepth 100000
set_option maxHeartbeats 4000000
namespace DD
open PySem PySem.Spec PyProof.Rows L2

/-! ### sorted(set(ints)) -/
def ins1 (x : Int) : List Int → List Int
  | [] => [x]
  | y :: r => if x < y then x :: y :: r else if x = y then y :: r else y :: ins1 x r
def sset : List Int → List Int
  | [] => []
  | x :: r => ins1 x (sset r)
theorem ins1_mem {x z : Int} : ∀ {l : List Int}, z ∈ ins1 x l ↔ z = x ∨ z ∈ l
  | [] => by simp [ins1]
  | y :: r => by
    unfold ins1
    by_cases h : x < y
    · rw [if_pos h]; simp
    · rw [if_neg h]
      by_cases h2 : x = y
      · rw [if_pos h2]; subst h2; simp
      · rw [if_neg h2]
        simp only [List.mem_cons, ins1_mem (l := r)]
        exact ⟨fun q => by rcases q with q | q | q <;> simp [q], fun q => by rcases q with q | q | q <;> simp [q]⟩
theorem ins1_sorted {x : Int} : ∀ {l : List Int}, l.Pairwise (· < ·) → (ins1 x l).Pairwise (· < ·)
  | [], _ => by simp [ins1]
  | y :: r, h => by
    obtain ⟨h1, h2⟩ := List.pairwise_cons.mp h
    unfold ins1
    by_cases c : x < y
    · rw [if_pos c]
      refine List.pairwise_cons.mpr ⟨fun z hz => ?_, h⟩
      rcases List.mem_cons.mp hz with rfl | hz
      · exact c
      · exact Int.lt_trans c (h1 z hz)
    · rw [if_neg c]
      by_cases c2 : x = y
      · rw [if_pos c2]; exact h
      · rw [if_neg c2]
        refine List.pairwise_cons.mpr ⟨fun z hz => ?_, ins1_sorted h2⟩
        rcases ins1_mem.mp hz with rfl | hz
        · omega
        · exact h1 z hz
theorem sset_mem {z : Int} : ∀ {l : List Int}, z ∈ sset l ↔ z ∈ l
  | [] => Iff.rfl
  | x :: r => by
    show z ∈ ins1 x (sset r) ↔ _
    rw [ins1_mem, sset_mem (l := r), List.mem_cons]
theorem sset_sorted : ∀ (l : List Int), (sset l).Pairwise (· < ·)
  | [] => .nil
  | x :: r => ins1_sorted (sset_sorted r)
theorem lt_uniq : ∀ {a b : List Int}, a.Pairwise (· < ·) → b.Pairwise (· < ·) → (∀ z, z ∈ a ↔ z ∈ b) → a = b
  | [], [], _, _, _ => rfl
  | [], y :: r, _, _, h => absurd ((h y).mpr List.mem_cons_self) (by simp)
  | x :: r, [], _, _, h => absurd ((h x).mp List.mem_cons_self) (by simp)
  | x :: r, y :: t, ha, hb, h => by
    obtain ⟨a1, a2⟩ := List.pairwise_cons.mp ha
    obtain ⟨b1, b2⟩ := List.pairwise_cons.mp hb
    have e : x = y := by
      rcases List.mem_cons.mp ((h x).mp List.mem_cons_self) with e | e
      · exact e
      · rcases List.mem_cons.mp ((h y).mpr List.mem_cons_self) with e2 | e2
        · exact e2.symm
        · exact absurd (Int.lt_trans (b1 x e) (a1 y e2)) (Int.lt_irrefl _)
    subst e
    refine congrArg _ (lt_uniq a2 b2 fun z => ⟨fun q => ?_, fun q => ?_⟩)
    · rcases List.mem_cons.mp ((h z).mp (List.mem_cons_of_mem _ q)) with e | e
      · exact absurd (e ▸ a1 z q) (Int.lt_irrefl _)
      · exact e
    · rcases List.mem_cons.mp ((h z).mpr (List.mem_cons_of_mem _ q)) with e | e
      · exact absurd (e ▸ b1 z q) (Int.lt_irrefl _)
      · exact e
def intsD : List D → Option (List Int)
  | [] => some []
  | .int i :: r => (intsD r).map (i :: ·)
  | _ => none
theorem ints_some : ∀ {ds : List D} {ns : List Int}, intsD ds = some ns → ds = ns.map PyData.int
  | [], _, h => by cases h; rfl
  | d :: r, ns, h => by
    cases d <;> first | exact nomatch (show none = some ns from h) | skip
    obtain ⟨ms, e, h⟩ := map_some h
    subst h
    rw [ints_some e]; rfl
theorem ints_map : ∀ ns : List Int, intsD (ns.map PyData.int) = some ns
  | [] => rfl
  | i :: r => by show (intsD _).map _ = _; rw [ints_map r]; rfl
theorem dpa_ints_v {K : PySem.W.Frag} {H : Hp} : ∀ {ns : List Int} {vs : List V}, DpAll K H vs (ns.map PyData.int) → vs = ns.map V.int
  | [], _, h => by cases h; rfl
  | i :: r, _, h => by
    cases h with
    | cons a b => rw [dp_int a, dpa_ints_v b]; rfl
section
variable {X : Cx}
def tSortedSet (K : PySem.W.Frag) (ta : TE) : TE := fun σ H Q => ta σ H fun x H1 => ∃ (l : Addr) (ns : List Int), x = V.ref l ∧ SqL K H1 l (ns.map V.int) ∧ ns.length < 63 ∧ ∀ p, H1 p = none → Q (.ref p) (upd H1 p (.lst ((sset ns).map V.int)))
theorem pe_sortedSet {a : Expr} {ta : TE} {p p2 q pos : Pos} (hg : Gl X "sorted") (hm : X.mg "sorted" = none) (hg2 : Gl X "set") (hm2 : X.mg "set" = none) (ha : PE X a ta) (hc : X.calm = true := by rfl)
    (na : starEach [a] X.env = (false, eval a X.env) :: starEach [] X.env := by rfl) : PE X (.Call (.Name "sorted" p) [.Call (.Name "set" p2) [a] [] q] [] pos) (tSortedSet X.K ta) := by
  refine ⟨fun pins s σ H Q I h => ?_⟩
  refine Call_ (ld_blt I hg hm (by boot_by_name) ?_)
  refine PyProof.Rows.callWith_builtin1 (PyProof.Rows.args_cons ?_ rfl) rfl rfl
  refine Call_ (ld_blt I hg2 hm2 boot_set ?_)
  refine PyProof.Rows.callWith_type1 (PyProof.Rows.args_cons (thn (ha.run pins s σ H _ I h) fun v s1 ⟨x, H1, I1, r1, q1⟩ => PyProof.Rows.args_nil ?_) na) na rfl
  obtain ⟨l, ns, rfl, hq, hl, q1⟩ := q1
  cases r1
  obtain ⟨its, r, pl, hz⟩ := I1.list hq
  refine call_setI ns (I1.ok.hd hc) pl.isList (by simpa using r.ints) (by unfold scanBound; omega) fun h' tk c hS hcl hk => ?_
  refine PyProof.Rows.args_nil ?_
  have I2 : Inv X pins σ H1 { s1 with heap := h', toks := tk } := I1.kept fun b o e => hk b o e
  refine sorted_set hS (I2.ok.hd hc) (by omega) fun s' p out c2 ns2 k g o hp hg hi hs hm hln => ?_
  have e : ns2 = sset ns := lt_uniq hs (sset_sorted ns) fun z => by rw [hm, sset_mem]; simp
  subst e
  have hlen : ((sset ns).map V.int).length ≤ sizeLine := by rw [List.length_map, hln, sizeLine_eq]; omega
  have hn : H1 p = none := I2.hok.fresh hp
  have J : Inv X pins σ (upd H1 p (.lst ((sset ns).map V.int))) { { s1 with heap := h', toks := tk } with heap := s'.heap, gens := s'.gens, drawn := s'.drawn, toks := s'.toks } :=
    I2.call (ch := []) (Un.laid k hp hn) (I2.hok.laid k hp ⟨hlen, out.toList, c2, vals_of_ints hi, hg⟩) (by rw [g]; exact I2.bare) (fun _ z => nomatch z)
  have e : s' = { { s1 with heap := h', toks := tk } with heap := s'.heap, gens := s'.gens, drawn := s'.drawn, toks := s'.toks } := by
    cases s'
    cases s1
    cases o
    rfl
  rw [e]
  exact ⟨.ref p, _, J, rfl, q1 p hn⟩
end
section
variable {K : PySem.W.Frag}
def mSortedSet (a : En → Option D) : En → Option (List D) := fun ρ => (a ρ).bind fun x => match x with
  | .list ds => (intsD ds).bind fun ns => if ns.length < 63 then some ((sset ns).map PyData.int) else none
  | _ => none
theorem fl_sortedSet {ta : TE} {ma : En → Option D} (ha : ET K ta ma) : FL K (tSortedSet K ta) (mSortedSet ma) := by
  refine ⟨fun {H0 T0 σ ρ H T out} G h Q q => ?_⟩
  obtain ⟨x, hx, h⟩ := bind_some h
  refine ha.run G hx _ fun v H1 s1 d1 p1 => ?_
  split at h
  · obtain ⟨ns, e, h⟩ := bind_some h
    split at h
    · rename_i hz
      cases h
      cases ints_some e
      obtain ⟨a, us, rfl, hs, gu⟩ := dp_lst p1
      cases dpa_ints_v gu
      exact ⟨a, ns, rfl, sql_ov d1 hs, hz, fun p np => q p _ H1 s1 d1 np (dpa_ints _)⟩
    · cases h
  · cases h
end

/-! ### sorted(texts) -/
def leS (a b : Str) : Bool := !ltCps b.cps.toList a.cps.toList
def insS (x : Str) : List Str → List Str
  | [] => [x]
  | y :: r => if leS x y = true then x :: y :: r else y :: insS x r
def sortS : List Str → List Str
  | [] => []
  | x :: r => insS x (sortS r)
theorem leS_iff {a b : Str} : leS a b = true ↔ a.cps.toList ≤ b.cps.toList := by
  unfold leS
  rw [ltCps_eq, ← List.not_lt]
  simp
theorem leS_trans {a b c : Str} (h : leS a b = true) (g : leS b c = true) : leS a c = true := leS_iff.mpr (List.le_trans (leS_iff.mp h) (leS_iff.mp g))
theorem leS_total (a b : Str) : leS a b = true ∨ leS b a = true := by
  by_cases h : leS a b = true
  · exact .inl h
  · refine .inr ?_
    unfold leS at h ⊢
    rw [ltCps_eq] at h ⊢
    have h' : b.cps.toList < a.cps.toList := by simpa using h
    simpa using List.le_of_lt h'
theorem leS_anti {a b : Str} (h : leS a b = true) (g : leS b a = true) : a = b := by
  have e : a.cps.toList = b.cps.toList := List.le_antisymm (leS_iff.mp h) (leS_iff.mp g)
  obtain ⟨⟨x⟩⟩ := a
  obtain ⟨⟨y⟩⟩ := b
  cases e
  rfl
theorem insS_perm (x : Str) : ∀ l : List Str, (insS x l).Perm (x :: l)
  | [] => .refl _
  | y :: r => by
    unfold insS
    split
    · exact .refl _
    · exact ((insS_perm x r).cons y).trans (.swap x y r)
theorem sortS_perm : ∀ l : List Str, (sortS l).Perm l
  | [] => .refl _
  | x :: r => (insS_perm x (sortS r)).trans ((sortS_perm r).cons x)
theorem insS_sorted {x : Str} : ∀ {l : List Str}, l.Pairwise (fun a b => leS a b = true) → (insS x l).Pairwise (fun a b => leS a b = true)
  | [], _ => by simp [insS]
  | y :: r, h => by
    obtain ⟨h1, h2⟩ := List.pairwise_cons.mp h
    unfold insS
    split
    · rename_i c
      refine List.pairwise_cons.mpr ⟨fun z hz => ?_, h⟩
      rcases List.mem_cons.mp hz with rfl | hz
      · exact c
      · exact leS_trans c (h1 z hz)
    · rename_i c
      refine List.pairwise_cons.mpr ⟨fun z hz => ?_, insS_sorted h2⟩
      rcases List.mem_cons.mp ((insS_perm x r).mem_iff.mp hz) with rfl | hz
      · exact (leS_total z y).resolve_left c
      · exact h1 z hz
theorem sortS_sorted : ∀ l : List Str, (sortS l).Pairwise (fun a b => leS a b = true)
  | [] => .nil
  | x :: r => insS_sorted (sortS_sorted r)
theorem risingS_pw : ∀ {p : Str} {l : List Str}, risingS p l = true → (p :: l).Pairwise (fun a b => leS a b = true)
  | p, [], _ => List.pairwise_singleton _ _
  | p, x :: r, h => by
    have h' : (leS p x && risingS x r) = true := h
    obtain ⟨h1, h2⟩ := Bool.and_eq_true_iff.mp h'
    have ih := risingS_pw h2
    refine List.pairwise_cons.mpr ⟨fun z hz => ?_, ih⟩
    rcases List.mem_cons.mp hz with rfl | hz
    · exact h1
    · exact leS_trans h1 ((List.pairwise_cons.mp ih).1 z hz)
theorem sortedS_pw : ∀ {l : List Str}, sortedS l = true → l.Pairwise (fun a b => leS a b = true)
  | [], _ => .nil
  | _ :: _, h => risingS_pw h
theorem sortS_uniq {l ys : List Str} (h : ys.Perm l) (g : sortedS ys = true) : ys = sortS l :=
  List.Perm.eq_of_pairwise (fun a b _ _ x y => leS_anti x y) (sortedS_pw g) (sortS_sorted l) (h.trans (sortS_perm l).symm)
def strsD : List D → Option (List Str)
  | [] => some []
  | .str x :: r => (strsD r).map (x :: ·)
  | _ => none
theorem strs_some : ∀ {ds : List D} {ns : List Str}, strsD ds = some ns → ds = ns.map PyData.str
  | [], _, h => by cases h; rfl
  | d :: r, ns, h => by
    cases d <;> first | exact nomatch (show none = some ns from h) | skip
    obtain ⟨ms, e, h⟩ := map_some h
    subst h
    rw [strs_some e]; rfl
theorem dpa_strs {K : PySem.W.Frag} {H : Hp} : ∀ ns : List Str, DpAll K H (ns.map V.str) (ns.map PyData.str)
  | [] => .nil
  | x :: r => .cons (.str x) (dpa_strs r)
theorem dpa_strs_v {K : PySem.W.Frag} {H : Hp} : ∀ {ns : List Str} {vs : List V}, DpAll K H vs (ns.map PyData.str) → vs = ns.map V.str
  | [], _, h => by cases h; rfl
  | i :: r, _, h => by
    cases h with
    | cons a b => rw [dp_str a, dpa_strs_v b]; rfl
section
variable {K : PySem.W.Frag}
def dSortedS : List D → Option (List D)
  | [.list ds] => (strsD ds).bind fun ns => if ns.length < 64 then some ((sortS ns).map PyData.str) else none
  | _ => none
theorem cl_sortedS : CL K (rSortedS K) dSortedS := by
  refine ⟨?_⟩
  intro H T vs ds out dis g h Q q
  unfold dSortedS at h
  split at h
  · obtain ⟨ns, e, h⟩ := bind_some h
    split at h
    · rename_i hz
      cases h
      cases strs_some e
      obtain ⟨v, rfl, g2⟩ := dpa_one g
      obtain ⟨a, us, rfl, hs, gu⟩ := dp_lst g2
      cases dpa_strs_v gu
      refine ⟨a, ns, rfl, sql_ov dis hs, hz, fun ys p hp hs hn => ?_⟩
      cases sortS_uniq hp hs
      exact q p _ H (Same.refl H) dis hn (dpa_strs _)
    · cases h
  · cases h
end
end DD

set_option Elab.async false
set_option linter.all false
set_option maxRecDepth 100000
set_option maxHeartbeats 4000000
namespace DD
open PySem PySem.Spec PyProof.Rows L2

/-! ### a dict of the top, as data -/
def deVs (f : Value → Option D) : List Value → Option (List D)
  | [] => some []
  | u :: r => match f u, deVs f r with
    | some d, some ds => some (d :: ds)
    | _, _ => none
def deF : Value → Option D
  | .none => some .none
  | .bool b => some (.bool b)
  | .int i _ => some (.int i)
  | .str x _ => some (.str x)
  | _ => none
def deV (K : PySem.W.Frag) : Nat → Value → Option D
  | n + 1, .ref a => match K.lookup a with
    | some ⟨.type c, _, .seq its _, _⟩ => match decide (c = "tuple") && decide (its.size ≤ 1000) with
      | true => (deVs (deV K n) its.toList).map PyData.tuple
      | false => none
    | _ => none
  | _, u => deF u
def dicD (K : PySem.W.Frag) : List DictEntry → Option (List (Str × D))
  | [] => some []
  | e :: r => match e.key, deV K 3 e.val, dicD K r with
    | .str x _, some d, some ds => some ((x, d) :: ds)
    | _, _, _ => none
def dicAt (K : PySem.W.Frag) (a : Addr) : Option (List (Str × D)) := match K.lookup a with
  | some ⟨_, _, .dict es _, _⟩ => dicD K es.toList
  | _ => none
theorem deVs_ok {K : PySem.W.Frag} {f : Value → Option D} (hf : ∀ (u : Value) {d : D}, f u = some d → ∃ v, RelV v u ∧ ∀ H, Dp K H v d) : ∀ (us : List Value) {ds : List D}, deVs f us = some ds → ∃ vs, Vals vs us ∧ ∀ H, DpAll K H vs ds
  | [], _, h => by cases h; exact ⟨[], .nil, fun _ => .nil⟩
  | u :: r, ds, h => by
    unfold deVs at h
    split at h
    · rename_i d ds2 e1 e2
      cases h
      obtain ⟨v, rv, g⟩ := hf u e1
      obtain ⟨vs, rvs, gs⟩ := deVs_ok hf r e2
      exact ⟨v :: vs, .cons rv rvs, fun H => .cons (g H) (gs H)⟩
    · cases h
theorem deF_ok {K : PySem.W.Frag} (u : Value) {d : D} (h : deF u = some d) : ∃ v, RelV v u ∧ ∀ H, Dp K H v d := by
  cases u with
  | none => cases h; exact ⟨.non, rfl, fun _ => .non⟩
  | bool b => cases h; exact ⟨.bl b, rfl, fun _ => .bl b⟩
  | int i t => cases h; exact ⟨.int i, ⟨t, rfl⟩, fun _ => .int i⟩
  | str x t => cases h; exact ⟨.str x, ⟨t, rfl⟩, fun _ => .str x⟩
  | _ => cases h
theorem deV_ok {K : PySem.W.Frag} : ∀ (n : Nat) (u : Value) {d : D}, deV K n u = some d → ∃ v, RelV v u ∧ ∀ H, Dp K H v d
  | 0, u, _, h => by
    refine deF_ok u ?_
    unfold deV at h
    exact h
  | n + 1, u, d, h => by
    cases u with
    | ref a =>
      unfold deV at h
      split at h
      · rename_i c od its k sl e
        split at h
        · rename_i e2
          obtain ⟨e3, e4⟩ := Bool.and_eq_true_iff.mp e2
          have e5 : c = "tuple" := of_decide_eq_true e3
          have e6 : its.size ≤ 1000 := of_decide_eq_true e4
          obtain ⟨ds, e7, h⟩ := map_some h
          subst h e5
          obtain ⟨vs, rv, g⟩ := deVs_ok (fun u {d} h => deV_ok n u h) its.toList e7
          exact ⟨.ref a, rfl, fun H => .tup (.inr ⟨_, its, k, e, rfl, rfl, Nat.le_trans e6 (by decide), rv⟩) (g H)⟩
        · cases h
      · cases h
    | _ => exact deF_ok _ (by unfold deV at h; exact h)
def kget (kvs : List (Str × D)) (z : Str) : Option D := match kvs.find? fun kv => kv.1 == z with
  | some kv => some kv.2
  | none => none
/-- at d: the dict of these keys and data -/
structure DictC (K : PySem.W.Frag) (w : World) (d : Addr) (kvs : List (Str × D)) : Prop where
  kd : ∃ es n, KDict K w d es n ∧ es.toList.map He.keyOf = He.keysIn w.params (kvs.map (·.1))
  hit : ∀ z x, kget kvs z = some x → ∃ u v, PySem.W.nsIn K d z = some (some u) ∧ RelV v u ∧ ∀ H, Dp K H v x
  miss : ∀ z, kget kvs z = none → PySem.W.nsIn K d z = some none
theorem dicD_hit {K : PySem.W.Frag} : ∀ {l : List DictEntry} {kvs : List (Str × D)}, dicD K l = some kvs → ∀ z : Str,
    (∀ x, kget kvs z = some x → ∃ e v, l.find? (·.key.isStr z) = some e ∧ RelV v e.val ∧ ∀ H, Dp K H v x) ∧ (kget kvs z = none → l.find? (·.key.isStr z) = none)
  | [], kvs, h, z => by
    cases h
    exact ⟨fun x h => by simp [kget] at h, fun _ => rfl⟩
  | e :: r, kvs, h, z => by
    unfold dicD at h
    split at h
    · rename_i x t d ds e1 e2 e3
      cases h
      obtain ⟨i1, i2⟩ := dicD_hit e3 z
      have ek : e.key.isStr z = (x == z) := by rw [e1]; rfl
      by_cases c : (x == z) = true
      · have g : kget ((x, d) :: ds) z = some d := by unfold kget; rw [List.find?_cons_of_pos (by exact c)]
        obtain ⟨v, rv, dv⟩ := deV_ok 3 e.val e2
        refine ⟨fun y hy => ?_, fun hn => by rw [g] at hn; cases hn⟩
        rw [g] at hy
        cases hy
        exact ⟨e, v, by rw [List.find?_cons_of_pos (by rw [ek]; exact c)], rv, dv⟩
      · have g : kget ((x, d) :: ds) z = kget ds z := by unfold kget; rw [List.find?_cons_of_neg (by exact c)]
        rw [g, List.find?_cons_of_neg (by rw [ek]; exact c)]
        exact ⟨i1, i2⟩
    · cases h
theorem dictC_of {K : PySem.W.Frag} {w : World} {a : Addr} {kvs : List (Str × D)} (h1 : He.dicW K a = some (He.keysIn w.params (kvs.map (·.1)))) (h2 : dicAt K a = some kvs) : DictC K w a kvs := by
  obtain ⟨es, n, kd⟩ := He.dicW_ok h1
  have e1 : es.toList.map He.keyOf = He.keysIn w.params (kvs.map (·.1)) := by
    unfold He.dicW at h1
    rw [kd.at_] at h1
    simp only at h1
    split at h1
    · exact Option.some.inj h1
    · cases h1
  have e2 : dicD K es.toList = some kvs := by
    unfold dicAt at h2
    rw [kd.at_] at h2
    exact h2
  have nr : es.toList.any (·.refKey) = false := by
    rw [List.any_eq_false]
    intro e he
    obtain ⟨x, t, ek, _⟩ := PySem.W.KeysLit.all kd.lit e he
    simp [DictEntry.refKey, ek]
  refine ⟨⟨es, n, kd, e1⟩, fun z x hx => ?_, fun z hz => ?_⟩
  · obtain ⟨e, v, h3, rv, dv⟩ := (dicD_hit e2 z).1 x hx
    refine ⟨e.val, v, ?_, rv, dv⟩
    unfold PySem.W.nsIn
    rw [kd.at_]
    simp only
    rw [h3]
  · have h3 := (dicD_hit e2 z).2 hz
    unfold PySem.W.nsIn
    rw [kd.at_]
    simp only
    rw [h3]
    simp only
    rw [if_neg (by rw [nr]; exact Bool.false_ne_true)]
end DD

set_option Elab.async false
set_option linter.all false
set_option maxRecDepth 100000
set_option maxHeartbeats 4000000
namespace DD
open PySem PySem.Spec PyProof.Rows L2

section
variable {X : Cx} {d : Addr} {kvs : List (Str × D)}
def rInK (K : PySem.W.Frag) (d : Addr) : R2 := fun x y H Q => ∃ (z : Str) (r : Option Value), x = .str z ∧ y = .ref d ∧ PySem.W.nsIn K d z = some r ∧ Q (.bl r.isSome) H
def rNotInK (K : PySem.W.Frag) (d : Addr) : R2 := fun x y H Q => ∃ (z : Str) (r : Option Value), x = .str z ∧ y = .ref d ∧ PySem.W.nsIn K d z = some r ∧ Q (.bl (!r.isSome)) H
theorem op_inK (D : DictC X.K X.w d kvs) : OpR X (compareOp .In) (rInK X.K d) := let ⟨_, _, k, _⟩ := D.kd; op_in_kd k
theorem op_notInK (D : DictC X.K X.w d kvs) : OpR X (compareOp .NotIn) (rNotInK X.K d) := let ⟨_, _, k, _⟩ := D.kd; op_notIn_kd k
def rGetK (K : PySem.W.Frag) (d : Addr) : R2 := fun x y H Q => ∃ (z : Str) (u : Value) (v : V), x = .ref d ∧ y = .str z ∧ PySem.W.nsIn K d z = some (some u) ∧ RelV v u ∧ Q v H
theorem ix_getK (D : DictC X.K X.w d kvs) : IxR X (rGetK X.K d) := by
  obtain ⟨es, n, k, _⟩ := D.kd
  intro value slice pins s σ H x y v u Q I rx ry h hs
  obtain ⟨z, u0, v0, rfl, rfl, e, r, q⟩ := h
  exact ix_kdict value slice pins s σ H _ _ v u Q I rx ry ⟨d, z, v0, rfl, rfl, ⟨es, n, u0, k.at_, k.lit, e, r⟩, q⟩ hs
def rSortedK (d : Addr) (ks : List Str) : List V → Hp → VK → Prop := fun vs H Q => vs = [V.ref d] ∧ ∀ (p : Addr), H p = none → Q (.ref p) (upd H p (.lst ((sortS ks).map V.str)))
theorem keys_of : ∀ {l : List DictEntry} {ks : List Str} {P : Params}, l.map He.keyOf = He.keysIn P ks → l.length = ks.length ∧ ∀ (j : Nat) (e : DictEntry), l[j]? = some e → ∃ x t, ks[j]? = some x ∧ e.key = .str x t
  | [], [], _, _ => ⟨rfl, fun j e h => by simp at h⟩
  | [], _ :: _, _, h => by cases h
  | _ :: _, [], _, h => by cases h
  | e :: l, k :: ks, P, h => by
    have h1 : He.keyOf e :: l.map He.keyOf = some (k, PyData.keyHash P k) :: He.keysIn P ks := h
    injection h1 with h2 h3
    obtain ⟨i1, i2⟩ := keys_of h3
    refine ⟨by simp [i1], fun j e' he => ?_⟩
    cases j with
    | zero =>
      have : e = e' := by simpa using he
      subst this
      unfold He.keyOf at h2
      split at h2
      · rename_i x t q
        obtain ⟨h5, _⟩ := Prod.mk.inj (Option.some.inj h2)
        exact ⟨x, t, by rw [h5]; rfl, q⟩
      · cases h2
    | succ j =>
      obtain ⟨x, t, a, b⟩ := i2 j e' (by simpa using he)
      exact ⟨x, t, by simpa using a, b⟩
end
section
variable {K : PySem.W.Frag} {w : World} {d : Addr} {kvs : List (Str × D)}
def dInK (kvs : List (Str × D)) : D → Option D
  | .str z => some (.bool (kget kvs z).isSome)
  | _ => none
def dNotInK (kvs : List (Str × D)) : D → Option D
  | .str z => some (.bool (!(kget kvs z).isSome))
  | _ => none
def dGetK (kvs : List (Str × D)) : D → Option D
  | .str z => kget kvs z
  | _ => none
theorem DictC.any (C : DictC K w d kvs) (z : Str) : ∃ r, PySem.W.nsIn K d z = some r ∧ r.isSome = (kget kvs z).isSome := by
  cases e : kget kvs z with
  | none => exact ⟨none, C.miss z e, rfl⟩
  | some x =>
    obtain ⟨u, v, h, _⟩ := C.hit z x e
    exact ⟨some u, h, rfl⟩
theorem ev_inK {ta : TE} {ma : En → Option D} (C : DictC K w d kvs) (ha : ET K ta ma) : ET K (tOp (rInK K d) ta (tC (.ref d))) (mUn (dInK kvs) ma) := by
  refine ⟨fun {H0 T0 σ ρ H T y} G h Q q => ?_⟩
  obtain ⟨x, hx, h⟩ := bind_some h
  refine ha.run G hx _ fun v H1 s1 d1 p1 => ?_
  unfold dInK at h
  split at h
  · rename_i z
    cases h
    obtain ⟨r, e1, e2⟩ := C.any z
    refine ⟨z, r, dp_str p1, rfl, e1, ?_⟩
    rw [e2]
    exact q _ H1 s1 d1 (.bl _)
  · cases h
theorem ev_notInK {ta : TE} {ma : En → Option D} (C : DictC K w d kvs) (ha : ET K ta ma) : ET K (tOp (rNotInK K d) ta (tC (.ref d))) (mUn (dNotInK kvs) ma) := by
  refine ⟨fun {H0 T0 σ ρ H T y} G h Q q => ?_⟩
  obtain ⟨x, hx, h⟩ := bind_some h
  refine ha.run G hx _ fun v H1 s1 d1 p1 => ?_
  unfold dNotInK at h
  split at h
  · rename_i z
    cases h
    obtain ⟨r, e1, e2⟩ := C.any z
    refine ⟨z, r, dp_str p1, rfl, e1, ?_⟩
    rw [e2]
    exact q _ H1 s1 d1 (.bl _)
  · cases h
theorem ev_getK {ta : TE} {ma : En → Option D} (C : DictC K w d kvs) (ha : ET K ta ma) : ET K (tOp (rGetK K d) (tC (.ref d)) ta) (mUn (dGetK kvs) ma) := by
  refine ⟨fun {H0 T0 σ ρ H T y} G h Q q => ?_⟩
  obtain ⟨x, hx, h⟩ := bind_some h
  refine ha.run G hx _ fun v H1 s1 d1 p1 => ?_
  unfold dGetK at h
  split at h
  · rename_i z
    obtain ⟨u, v0, e1, r, g⟩ := C.hit z y h
    exact ⟨z, u, v0, rfl, dp_str p1, e1, r, q _ H1 s1 d1 (g _)⟩
  · cases h
def mSortedK (ks : List Str) : En → Option (List D) := fun _ => some ((sortS ks).map PyData.str)
theorem fl_sortedK {ks : List Str} : FL K (tCB (rSortedK d ks) (tCons (tC (.ref d)) tNil)) (mSortedK ks) := by
  refine ⟨fun {H0 T0 σ ρ H T out} G h Q q => ?_⟩
  cases h
  exact ⟨rfl, fun p np => q p _ H (Same.refl H) G.dis np (dpa_strs _)⟩

/-! ### l.index(x) -/
def dIndex (x y : D) : Option D := match x with
  | .list ds => if (SeqAt.shaped (.list ds) && SeqAt.shaped y) = true then (ds.findIdx? fun z => PyData.eqv z y).map fun j => .int (j : Nat) else none
  | _ => none
theorem ev_index {ta tb : TE} {ma mb : En → Option D} (ha : ET K ta ma) (hb : ET K tb mb) : ET K (tBM K "list" (rIndexD K) ta (tCons tb tNil)) (mOp dIndex ma mb) := by
  refine ⟨fun {H0 T0 σ ρ H T out} G h Q q => ?_⟩
  obtain ⟨x, hx, h⟩ := bind_some h
  obtain ⟨y, hy, h⟩ := bind_some h
  refine ha.run G hx _ fun v H1 s1 d1 p1 => ?_
  unfold dIndex at h
  split at h
  · rename_i _ ds _
    split at h
    · rename_i hs
      obtain ⟨h1, h2⟩ := Bool.and_eq_true_iff.mp hs
      obtain ⟨j, hj, h⟩ := map_some h
      subst h
      obtain ⟨a, us, rfl, hq, gu⟩ := dp_lst p1
      refine ⟨.inl ⟨rfl, us, sql_ov d1 hq⟩, ?_⟩
      refine hb.run (G.mono s1 d1) hy _ fun v2 H2 s2 d2 p2 => ?_
      obtain ⟨jl, j1, j2⟩ := List.findIdx?_eq_some_iff_getElem.mp hj
      refine ⟨a, v2, y, ds, j, ds[j], rfl, rfl, dp_ov d2 (dp_mono s2 (.lst hq gu)), dp_ov d2 p2, h1, h2, List.getElem?_eq_getElem jl, j1, fun m z hm hz => ?_, q _ H2 (s1.trans s2) d2 (.int _)⟩
      have ml : m < ds.length := Nat.lt_trans hm jl
      rw [List.getElem?_eq_getElem ml] at hz
      cases hz
      simpa using j2 m hm
    · cases h
  · cases h
end

/-! ### sorted(a dict of the top) -/
section
variable {X : Cx} {d : Addr} {kvs : List (Str × D)}
theorem pairs_of {P : Program} {w : World} : ∀ {l : List DictEntry} {ks : List Str}, l.map He.keyOf = He.keysIn w.params ks → Pairs (strKind P w) l (ks.zip (l.map (·.val)))
  | [], [], _ => .nil
  | [], _ :: _, h => by cases h
  | _ :: _, [], h => by cases h
  | e :: l, k :: ks, h => by
    have h1 : He.keyOf e :: l.map He.keyOf = some (k, PyData.keyHash w.params k) :: He.keysIn w.params ks := h
    injection h1 with h2 h3
    refine .cons ?_ rfl (pairs_of h3)
    unfold He.keyOf at h2
    split at h2
    · rename_i x t q
      obtain ⟨h5, _⟩ := Prod.mk.inj (Option.some.inj h2)
      rw [q, h5]
      exact strKind_is P w k t
    · cases h2
theorem strsAre_at : ∀ {vs : List Value} {ks : List Str}, vs.length = ks.length → (∀ (j : Nat) (v : Value), vs[j]? = some v → ∃ x t, ks[j]? = some x ∧ v = .str x t) → StrsAre vs ks
  | [], [], _, _ => .nil
  | [], _ :: _, h, _ => by simp at h
  | _ :: _, [], h, _ => by simp at h
  | v :: vs, k :: ks, h, g => by
    obtain ⟨x, t, e, rfl⟩ := g 0 v rfl
    have e2 : k = x := by simpa using e
    subst e2
    exact .cons k t (strsAre_at (by simpa using h) fun j u hu => by simpa using g (j + 1) u (by simpa using hu))
theorem cr_sortedK (C : DictC X.K X.w d kvs) (h64 : (kvs.map (·.1)).length < 64) (hnd : (kvs.map (·.1)).Nodup) (hcalm : X.calm = true) : CallR X (.builtin "sorted") (rSortedK d (kvs.map (·.1))) := by
  obtain ⟨es, n, k, ek⟩ := C.kd
  obtain ⟨hl, hat⟩ := keys_of ek
  intro pins s σ H xs us Q I r q
  obtain ⟨ex, q⟩ := q
  subst ex
  rw [Vals.ref1 r]
  have hle : (kvs.map (·.1)).length ≤ (es.toList.map (·.val)).length := by rw [List.length_map (as := es.toList), hl]; exact Nat.le_refl _
  have hlv : ((kvs.map (·.1)).zip (es.toList.map (·.val))).length = (kvs.map (·.1)).length := by rw [List.length_zip, List.length_map (as := es.toList), hl]; exact Nat.min_self _
  have da : s.heap.DictAt (strKind X.prog X.w) d ((kvs.map (·.1)).zip (es.toList.map (·.val))) n := by
    refine ⟨_, es, I.kIn d _ k.at_, ⟨rfl, rfl, rfl⟩, rfl, fun e he => ?_, pairs_of ek, ?_⟩
    · obtain ⟨x, t, e1, e2⟩ := PySem.W.KeysLit.all k.lit e (Array.mem_toList_iff.mpr he)
      exact ⟨x, by rw [e1]; exact strKind_is X.prog X.w x t, e2⟩
    · rw [List.map_fst_zip hle]
      exact hnd
  refine Calls.call_function_entry PyProof.Rows.kind_sorted PyProof.Rows.plain_sorted PyProof.Rows.entry_sorted (PyProof.Rows.args_sorted1 _) ?_
  unfold Builtin.«sorted»
  refine wpAny_bind (m := checkCount "sorted" 1 1 _) (wpAny_pure ?_)
  refine wpAny_bind (PySem.W.kdu_collect (A := X.A.in1) (PySem.W.kdl_dict (knd := strKind X.prog X.w) (ep := n) k.low) (I.ok.hd hcalm) da (by rw [hlv, sizeLine_eq]; omega) fun h' tk acc hk hacc => ?_)
  have al : acc.toList.length = (kvs.map (·.1)).length := by rw [Array.length_toList, hacc.1, hlv]
  have sa : StrsAre acc.toList (kvs.map (·.1)) := strsAre_at al fun j v e => by
    obtain ⟨z, x, e1, e2⟩ := hacc.2 j v (by rw [← Array.getElem?_toList]; exact e)
    obtain ⟨t, ev⟩ := Value.isStrOf_shape (x := z) (v := v) e2
    refine ⟨z, t, ?_, ev⟩
    have e3 : (((kvs.map (·.1)).zip (es.toList.map (·.val))).map (·.1))[j]? = some z := by rw [List.getElem?_map, e1]; rfl
    rw [List.map_fst_zip hle] at e3
    exact e3
  have I1 : Inv X pins σ H { s with heap := h', toks := tk } := I.kept hk
  refine wpAny_bind (wpAny_newList ?_ (by rw [al, sizeLine_eq]; omega))
  have at0 : (h'.push (seqObj "list" acc.toList.toArray 0)).get? h'.objs.size = some (seqObj "list" acc.toList.toArray 0) := Heap.get?_push_size _ rfl
  show wpAny _ _ _ _ _ { s with heap := h'.push (seqObj "list" acc.toList.toArray 0), toks := tk }
  refine wpAny_bind (wpAny_holding (wpAny_call_entry PyProof.Rows.slot_list_sort ⟨_, at0, rfl⟩ PyProof.Rows.entry_list_sort
    (list_sort_treeK strKind_oneLt (s := { s with heap := h'.push (seqObj "list" acc.toList.toArray 0), toks := tk }) at0 sa.keysOf (fun v₁ v₂ rest e => keyKind_strs (by rw [← e]; exact sa)) (by rw [al]; exact h64) fun st' hp hs => ⟨_, rfl, ?_⟩)
    (PyProof.Rows.args_list_sort _)))
  obtain ⟨ys, g1, g2, g3⟩ := sorted_out_str sa hp hs
  cases sortS_uniq g2 g3
  obtain ⟨e', he'⟩ := PyProof.Rows.sortedHeap_at (vs := acc.toList) (out := (arrOf st').map (·.2)) at0
  have hlen : ((sortS (kvs.map (·.1))).map V.str).length ≤ sizeLine := by rw [List.length_map, g2.length_eq, sizeLine_eq]; omega
  refine wpAny_pure ⟨_, rfl, .ref h'.objs.size, upd H h'.objs.size (.lst ((sortS (kvs.map (·.1))).map V.str)), I1.laid (t' := tk) (fun b u e => ?_) (Nat.le_refl _)
    (show ObjOk X.prog X.w _ _ _ (.lst ((sortS (kvs.map (·.1))).map V.str)) from ⟨hlen, ((arrOf st').map (·.2)).toList, e', vals_of_strs g1, by rw [Array.toArray_toList]; exact he'⟩), rfl, q _ (I1.hok.fresh (Nat.le_refl _))⟩
  have lt : b < h'.objs.size := Heap.lt_size e
  rw [PyProof.Rows.sortedHeap_old (Nat.ne_of_lt lt) (by rw [Heap.size_push]; exact Nat.lt_succ_of_lt lt)]
  exact Heap.get?_push_of_some _ e
end
end DD

set_option Elab.async false
set_option linter.all false
set_option maxRecDepth 100000
set_option maxHeartbeats 4000000
namespace DD
open PySem PySem.Spec PyProof.Rows L2

/-! ### a comprehension of two clauses -/
def noOwn (ρ : En) : Bool := ρ.all fun s => match s with
  | some (.own _) => false
  | _ => true
theorem noOwn_get {ρ : En} (h : noOwn ρ = true) {i : Nat} {ds : List D} (e : ρ[i]? = some (some (Sl.own ds))) : False := by
  have := List.all_eq_true.mp h _ (List.mem_of_getElem? e)
  cases this
def coll2 (g : D → En → Option En) (c : En → Option Bool) (it1 : En → Option (List D)) (g1 : D → En → Option En) (c1 : En → Option Bool) (e : En → Option D) (vs1 : List Nat) (ρ : En) : List D → Option (List D)
  | [] => some []
  | d :: ds => (g d ρ).bind fun ρ1 => (c ρ1).bind fun b => if b = true then
      (if noOwn ρ1 = true then (it1 ρ1).bind fun ds1 => (coll g1 c1 e (wipeM ρ1 vs1) ds1).bind fun r1 => (coll2 g c it1 g1 c1 e vs1 ρ ds).map fun r => r1 ++ r else none)
    else coll2 g c it1 g1 c1 e vs1 ρ ds
def mLc2 (it : En → Option (List D)) (g : D → En → Option En) (c : En → Option Bool) (it1 : En → Option (List D)) (g1 : D → En → Option En) (c1 : En → Option Bool) (e : En → Option D) (vs vs1 : List Nat) : En → Option (List D) :=
  fun ρ => (it ρ).bind fun ds => (coll2 g c it1 g1 c1 e vs1 (wipeM ρ vs) ds).bind fun r => if r.length ≤ cap then some r else none
section
variable {K : PySem.W.Frag}
theorem Good.reput {H0 H : Hp} {T0 T : Ov} {σ : L2.St} {ρ : En} {p : Addr} {xs ys : List V} (G : Good K H0 T0 σ ρ H (put T p xs)) (no : noOwn ρ = true) (hT : T p = none) (hT0 : T0 p = none) (hH : H p = none) : Good K H0 T0 σ ρ H (put T p ys) := by
  refine ⟨G.len, G.val, fun i ds h => (noOwn_get no h).elim, fun i j ds es q h => (noOwn_get no h).elim, fun a zs e => ?_, fun a zs e => ?_, G.ex⟩
  · by_cases z : a = p
    · rw [z]; exact hH
    · rw [put_ne z] at e
      exact G.dis a zs (by rw [put_ne z]; exact e)
  · have z : a ≠ p := fun z => by rw [z, hT0] at e; cases e
    have := G.ext a zs e
    rw [put_ne z] at this ⊢
    exact this
theorem fl_lc2 {wi wi1 : TI} {g g1 : TG} {tt tt1 : TT} {te : TE} {vs vs1 : List Nat} {mi mi1 : En → Option (List D)} {mg mg1 : D → En → Option En} {mc mc1 : En → Option Bool} {me : En → Option D}
    (hi : IT K wi mi) (hg : TGm K vs g mg) (ht : TTm K tt mc) (hi1 : IT K wi1 mi1) (hg1 : TGm K vs1 g1 mg1) (ht1 : TTm K tt1 mc1) (he : ET K te me) : FL K (tLc2 wi g tt wi1 g1 tt1 te vs vs1) (mLc2 mi mg mc mi1 mg1 mc1 me vs vs1) := by
  refine ⟨fun {H0 T0 σ ρ H T out} G h Q q => ?_⟩
  obtain ⟨ds, hd, h⟩ := bind_some h
  obtain ⟨out0, h, hz⟩ := bind_some h
  split at hz
  · rename_i hz0
    cases hz
    refine hi.run G hd _ fun J Hm s1 d1 w => ?_
    intro Dl hD
    obtain ⟨nT, nH⟩ := ov_free hD
    have nT0 : T0 Dl = none := by
      cases e : T0 Dl with
      | none => rfl
      | some zs => rw [G.ext Dl zs e] at nT; cases nT
    have fr : ∀ {H' : Hp} {acc : List V}, Dis H' (put T Dl acc) → Dis H' T ∧ H' Dl = none := fun {H' acc} d => ⟨fun a xs e => by
      by_cases z : a = Dl
      · rw [z, nT] at e; cases e
      · exact d a xs (by rw [put_ne z]; exact e), d Dl acc put_same⟩
    refine ⟨fun i m Hc => i ≤ ds.length ∧ m = ds.length - i ∧ ∃ H1 acc as r, Hc = ov H1 (put T Dl acc) ∧ Same Hm H1 ∧ Dis H1 T ∧ H1 Dl = none ∧ DpAll K H1 acc as ∧ coll2 mg mc mi1 mg1 mc1 me vs1 (wipeM ρ vs) (ds.drop i) = some r ∧ out = as ++ r,
      ⟨ds.length, Nat.zero_le _, rfl, Hm, [], [], out, by rw [upd_put], Same.refl Hm, d1, nH, .nil, h, rfl⟩, ?_⟩
    rintro i m Hc ⟨hil, rfl, H1, acc, as, r, rfl, sm, dis, nD, ga, hc, eo⟩
    have dput : Dis H1 (put T Dl acc) := dis_put dis nD
    by_cases hlt : i < ds.length
    · have hge : ds[i]? = some ds[i] := List.getElem?_eq_getElem hlt
      rw [List.drop_eq_getElem_cons hlt] at hc
      obtain ⟨ρ2, h2, hc⟩ := bind_some hc
      obtain ⟨b, hb, hc⟩ := bind_some hc
      refine .inr ⟨w.go i sm dput hlt, fun Hc' => ∃ H1 acc as r, Hc' = ov H1 (put T Dl acc) ∧ Same Hm H1 ∧ Dis H1 T ∧ H1 Dl = none ∧ DpAll K H1 acc as ∧ coll2 mg mc mi1 mg1 mc1 me vs1 (wipeM ρ vs) (ds.drop (i + 1)) = some r ∧ out = as ++ r,
        fun Hc' ⟨H1, acc, as, r, a1, a2, a3, a4, a5, a7, a8⟩ => ⟨ds.length - (i + 1), by omega, by omega, rfl, H1, acc, as, r, a1, a2, a3, a4, a5, a7, a8⟩, fun x Hc' y => ?_⟩
      obtain ⟨H2, rfl, s2, d2, p2⟩ := w.yld i sm dput hge y
      have G2 : Good K H0 T0 (L2.wipe σ vs) (wipeM ρ vs) H2 (put T Dl acc) := (((G.mono s1 d1).wipe vs).more hD).mono (sm.trans s2) d2
      refine hg.run G2 p2 h2 _ fun σ3 H3 G3 s3 w3 => ⟨by rw [w3, wipe_wipe], ?_⟩
      refine ht.run G3 hb _ fun H4 s4 d4 => ?_
      have G4 := G3.mono s4 d4
      cases b with
      | true =>
        rw [if_pos rfl] at hc ⊢
        split at hc
        · rename_i no
          obtain ⟨ds1, hd1, hc⟩ := bind_some hc
          obtain ⟨r1, hr1, hc⟩ := bind_some hc
          obtain ⟨r2, hr2, hc⟩ := map_some hc
          subst hc
          refine hi1.run G4 hd1 _ fun J1 Hn s5 d5 w1 => ?_
          have G5 := G4.mono s5 d5
          have sB : Same H1 Hn := s2.trans ((s3.trans s4).trans s5)
          obtain ⟨dT5, dn5⟩ := fr d5
          refine ⟨fun j k Hc => j ≤ ds1.length ∧ k = ds1.length - j ∧ ∃ H1 acc as r, Hc = ov H1 (put T Dl acc) ∧ Same Hn H1 ∧ Dis H1 T ∧ H1 Dl = none ∧ DpAll K H1 acc as ∧ coll mg1 mc1 me (wipeM ρ2 vs1) (ds1.drop j) = some r ∧ out = as ++ (r ++ r2),
            ⟨ds1.length, Nat.zero_le _, rfl, Hn, acc, as, r1, rfl, Same.refl Hn, dT5, dn5, dpa_mono sB ga, hr1, eo⟩, ?_⟩
          rintro j k Hc ⟨hjl, rfl, K1, ac, bs, rr, rfl, sk, dk, nk, gk, hk, ek⟩
          have dputk : Dis K1 (put T Dl ac) := dis_put dk nk
          by_cases hjt : j < ds1.length
          · have hje : ds1[j]? = some ds1[j] := List.getElem?_eq_getElem hjt
            rw [List.drop_eq_getElem_cons hjt] at hk
            obtain ⟨ρ6, h6, hk⟩ := bind_some hk
            obtain ⟨b1, hb1, hk⟩ := bind_some hk
            refine .inr ⟨w1.go j sk dputk hjt, fun Hc' => ∃ H1 acc as r, Hc' = ov H1 (put T Dl acc) ∧ Same Hn H1 ∧ Dis H1 T ∧ H1 Dl = none ∧ DpAll K H1 acc as ∧ coll mg1 mc1 me (wipeM ρ2 vs1) (ds1.drop (j + 1)) = some r ∧ out = as ++ (r ++ r2),
              fun Hc' ⟨H1, acc, as, r, a1, a2, a3, a4, a5, a7, a8⟩ => ⟨ds1.length - (j + 1), by omega, by omega, rfl, H1, acc, as, r, a1, a2, a3, a4, a5, a7, a8⟩, fun x6 Hc6 y6 => ?_⟩
            obtain ⟨K2, rfl, s6, d6, p6⟩ := w1.yld j sk dputk hje y6
            have G6 : Good K H0 T0 (L2.wipe σ3 vs1) (wipeM ρ2 vs1) K2 (put T Dl ac) := ((((G5.reput no nT nT0 dn5 (ys := ac)).mono sk dputk).mono s6 d6).wipe vs1)
            refine hg1.run G6 p6 h6 _ fun σ7 K3 G7 s7 w7 => ⟨by rw [w7, wipe_wipe], ?_⟩
            refine ht1.run G7 hb1 _ fun K4 s8 d8 => ?_
            have G8 := G7.mono s8 d8
            cases b1 with
            | true =>
              rw [if_pos rfl] at hk ⊢
              obtain ⟨z, hz2, hk⟩ := bind_some hk
              obtain ⟨r', hr', hk⟩ := map_some hk
              refine he.run G8 hz2 _ fun v K5 s9 d9 p9 => ?_
              obtain ⟨dT, dn⟩ := fr d9
              have sQ : Same K1 K5 := s6.trans ((s7.trans s8).trans s9)
              refine ⟨ac, ov_own put_same, ?_, K5, ac ++ [v], bs ++ [z], r', by rw [upd_put, put_put], sk.trans sQ, dT, dn, dpa_snoc (dpa_mono sQ gk) p9, hr', ?_⟩
              · refine cap_lt (Nat.le_trans ?_ hz0)
                rw [dpa_len gk, ek, List.length_append]
                omega
              · rw [ek, ← hk, List.append_assoc]
                rfl
            | false =>
              rw [if_neg Bool.false_ne_true] at hk ⊢
              obtain ⟨dT, dn⟩ := fr d8
              have sQ : Same K1 K4 := s6.trans (s7.trans s8)
              exact ⟨K4, ac, bs, rr, rfl, sk.trans sQ, dT, dn, dpa_mono sQ gk, hk, ek⟩
          · have e : j = ds1.length := by omega
            subst e
            rw [List.drop_length] at hk
            cases hk
            refine .inl ⟨w1.stop sk dputk, K1, ac, bs, r2, rfl, ?_, dk, nk, gk, hr2, ?_⟩
            · exact sm.trans (sB.trans sk)
            · rw [ek]; rfl
        · cases hc
      | false =>
        rw [if_neg Bool.false_ne_true] at hc ⊢
        obtain ⟨dT, dn⟩ := fr d4
        exact ⟨H4, acc, as, r, rfl, sm.trans (s2.trans (s3.trans s4)), dT, dn, dpa_mono (s2.trans (s3.trans s4)) ga, hc, eo⟩
    · have e : i = ds.length := by omega
      subst e
      rw [List.drop_length] at hc
      cases hc
      rw [List.append_nil] at eo
      subst eo
      refine .inl ⟨w.stop sm dput, ?_⟩
      rw [← upd_put]
      have hfree : ov H1 T Dl = none := by rw [ov_none nT]; exact nD
      exact q Dl acc H1 (s1.trans sm) dis hfree ga
  · cases hz
end
end DD

set_option Elab.async false
set_option linter.all false
set_option maxRecDepth 100000
set_option maxHeartbeats 4000000
namespace DD
open PySem PySem.Spec PyProof.Rows L2
/-! ### a dict of the top, from what the top's heap shows -/
def keyS (e : DictEntry) : Option Str := match e.key with
  | .str x _ => some x
  | _ => none
def Ents (K : PySem.W.Frag) : List (Option Str × Value) → Option (List (Str × D))
  | [] => some []
  | (k, v) :: r => match k, deV K 3 v, Ents K r with
    | some x, some d, some ds => some ((x, d) :: ds)
    | _, _, _ => none
theorem ents_nil {K : PySem.W.Frag} : Ents K [] = some [] := rfl
theorem ents_cons {K : PySem.W.Frag} {k : Str} {v : Value} {d : D} {l : List (Option Str × Value)} {ds : List (Str × D)} (h : deV K 3 v = some d) (r : Ents K l = some ds) : Ents K ((some k, v) :: l) = some ((k, d) :: ds) := by
  unfold Ents
  rw [h, r]
theorem deV_tup {K : PySem.W.Frag} {a : Addr} {od : Option Addr} {its : Array Value} {n : Nat} {sl : Array (Option Value)} {ds : List D} (t : K.lookup a = some ⟨.type "tuple", od, .seq its n, sl⟩) (z : its.size ≤ 1000) (u : deVs (deV K 2) its.toList = some ds) : deV K 3 (.ref a) = some (.tuple ds) := by
  unfold deV
  rw [t]
  show (match decide ("tuple" = "tuple") && decide (its.size ≤ 1000) with
      | true => (deVs (deV K 2) its.toList).map PyData.tuple
      | false => none) = _
  rw [decide_eq_true z, u]
  rfl
theorem dicD_ents {K : PySem.W.Frag} : ∀ l : List DictEntry, dicD K l = Ents K (l.map fun e => (keyS e, e.val))
  | [] => rfl
  | e :: r => by
    unfold dicD
    show _ = Ents K ((keyS e, e.val) :: r.map fun e => (keyS e, e.val))
    unfold Ents
    rw [dicD_ents r]
    have : keyS e = (match e.key with
      | .str x _ => some x
      | _ => none) := rfl
    rw [this]
    cases e.key <;> cases deV K 3 e.val <;> cases Ents K (r.map fun e => (keyS e, e.val)) <;> rfl
theorem keys_lit {P : Params} : ∀ {l : List DictEntry} {L : List (Option Str × Value)} {K : PySem.W.Frag} {kvs : List (Str × D)}, PySem.W.KeysLit P l → l.map (fun e => (keyS e, e.val)) = L → Ents K L = some kvs → l.map He.keyOf = He.keysIn P (kvs.map (·.1))
  | [], L, K, kvs, _, h, g => by
    subst h
    cases g
    rfl
  | e :: r, L, K, kvs, y, h, g => by
    subst h
    obtain ⟨⟨x, t, e1, e2⟩, y2⟩ := y
    have g' : (match keyS e, deV K 3 e.val, Ents K (r.map fun e => (keyS e, e.val)) with
      | some x, some d, some ds => some ((x, d) :: ds)
      | _, _, _ => none) = some kvs := g
    have ke : keyS e = some x := by unfold keyS; rw [e1]
    rw [ke] at g'
    split at g'
    · rename_i x2 d ds q1 q2 q3
      cases q1
      cases g'
      have ih := keys_lit (K := K) y2 rfl q3
      show He.keyOf e :: r.map He.keyOf = some (x, PyData.keyHash P x) :: He.keysIn P (ds.map (·.1))
      rw [ih]
      have : He.keyOf e = some (x, PyData.keyHash P x) := by
        unfold He.keyOf
        rw [e1, e2]
      rw [this]
    · cases g'
theorem dictC_mk {K : PySem.W.Frag} {w : World} {a : Addr} {es : Array DictEntry} {n : Nat} {L : List (Option Str × Value)} {kvs : List (Str × D)} (l : K.lookup a = some ⟨.type "dict", none, .dict es n, #[]⟩) (y : PySem.W.KeysLit w.params es.toList) (z : (a == sysModules) = false)
    (v : es.toList.map (fun e => (keyS e, e.val)) = L) (g : Ents K L = some kvs) : DictC K w a kvs := by
  have kl := keys_lit y v g
  refine dictC_of (w := w) ?_ ?_
  · unfold He.dicW
    rw [l]
    show (match decide ("dict" = "dict") && ((#[] : Array (Option Value)).isEmpty && !(a == sysModules)) with
      | true => some (es.toList.map He.keyOf)
      | false => none) = _
    rw [z, kl]
    rfl
  · unfold dicAt
    rw [l]
    show dicD K es.toList = _
    rw [dicD_ents, v, g]
end DD

set_option Elab.async false
set_option linter.all false
namespace DD
open PySem PySem.Spec PyProof.Rows L2
/-! ### a list + a list, both of any form -/
section
variable {K : PySem.W.Frag}
def mCatE (a b : En → Option D) : En → Option (List D) := fun ρ => (a ρ).bind fun x => (b ρ).bind fun y => match x, y with
  | .list xs, .list ys => if xs.length + ys.length ≤ cap then some (xs ++ ys) else none
  | _, _ => none
theorem fl_catE {ta tb : TE} {ma mb : En → Option D} (ha : ET K ta ma) (hb : ET K tb mb) : FL K (tOp (rCatX K) ta tb) (mCatE ma mb) := by
  refine ⟨fun {H0 T0 σ ρ H T out} G h Q q => ?_⟩
  obtain ⟨x, hx, h⟩ := bind_some h
  obtain ⟨y, hy, h⟩ := bind_some h
  refine ha.run G hx _ fun v H1 s1 d1 p1 => hb.run (G.mono s1 d1) hy _ fun v2 H2 s2 d2 p2 => ?_
  split at h
  · rename_i xs ys
    split at h
    · rename_i hz
      cases h
      obtain ⟨a, us, rfl, hs, gu⟩ := dp_lst (dp_mono s2 p1)
      obtain ⟨b, ws, rfl, hs2, gw⟩ := dp_lst p2
      exact ⟨a, b, us, ws, rfl, rfl, sql_ov d2 hs, sql_ov d2 hs2, by rw [dpa_len gu, dpa_len gw]; exact cap_line hz, fun p np => q p _ H2 (s1.trans s2) d2 np (dpa_append gu gw)⟩
    · cases h
  · cases h
end
end DD

set_option Elab.async false
set_option linter.all false
set_option maxRecDepth 100000
set_option maxHeartbeats 4000000
/-! sets of texts: made of a list, put in a row -/
namespace DD
open PySem PySem.Spec PyProof.Rows L2
def txtOf : Value → Str
  | .str x _ => x
  | _ => ""
def addS (m : List Str) (k : Str) : List Str := if k ∈ m then m else k :: m
theorem addS_mem {m : List Str} {k z : Str} : z ∈ addS m k ↔ z ∈ m ∨ z = k := by
  unfold addS
  split
  · rename_i h
    exact ⟨.inl, fun q => q.elim id fun e => e ▸ h⟩
  · rw [List.mem_cons]; exact Or.comm
theorem addS_nd {m : List Str} {k : Str} (h : m.Nodup) : (addS m k).Nodup := by
  unfold addS
  split
  · exact h
  · exact List.nodup_cons.mpr ⟨by assumption, h⟩
theorem addS_len {m : List Str} {k : Str} : (addS m k).length ≤ m.length + 1 := by
  unfold addS
  split
  · omega
  · rw [List.length_cons]; omega
section
variable {P : Program} {w : World}
/-- the set of texts at a: its members m, each once; it can be walked -/
def TxS (P : Program) (w : World) (h : Heap) (a : Addr) (m : List Str) : Prop :=
  ∃ o es ep t, h.get? a = some o ∧ o.ExactSet ∧ o.data = .set es ep t ∧ ElemsOf (PySem.strKind P w) es.toList ∧ (es.toList.map fun e => txtOf e.2).Perm m ∧ m.Nodup ∧
    es.size < scanBound ∧ t.fits es.size = true ∧ Ris t.place.toList ∧ (w.params.followText "set-order" = true ∨ t.led = true)
theorem TxS.at {h h' : Heap} {a : Addr} {m : List Str} (R : TxS P w h a m) (k : ∀ o, h.get? a = some o → h'.get? a = some o) : TxS P w h' a m := by
  obtain ⟨o, es, ep, t, ho, r⟩ := R
  exact ⟨o, es, ep, t, k o ho, r⟩
theorem tx_is {k : Str} {v : Value} (h : (PySem.strKind P w).is k v = true) : ∃ t, v = .str k t := Value.isStrOf_shape h
theorem tx_of {l : List (Int × Value)} (g : ElemsOf (PySem.strKind P w) l) {e : Int × Value} (he : e ∈ l) (k : Str) : (PySem.strKind P w).is k e.2 = true ↔ txtOf e.2 = k := by
  obtain ⟨⟨k0, h0, _⟩, _⟩ := g e he
  obtain ⟨t, q⟩ := tx_is h0
  rw [q]
  constructor
  · intro z
    obtain ⟨t2, q2⟩ := tx_is z
    cases q2
    rfl
  · intro z
    have z' : k0 = k := z
    subst z'
    exact PySem.strKind_is P w _ t
theorem tx_mem {l : List (Int × Value)} {m : List Str} (g : ElemsOf (PySem.strKind P w) l) (pm : (l.map fun e => txtOf e.2).Perm m) (k : Str) : k ∈ m ↔ ∃ e ∈ l, (PySem.strKind P w).is k e.2 = true := by
  rw [← pm.mem_iff, List.mem_map]
  exact ⟨fun ⟨e, he, q⟩ => ⟨e, he, (tx_of g he k).2 q⟩, fun ⟨e, he, q⟩ => ⟨e, he, (tx_of g he k).1 q⟩⟩
theorem tx_new {h : Heap} {a : Addr} (ho : h.get? a = some (set0 w)) : TxS P w h a [] := by
  refine ⟨_, #[], 0, _, ho, ⟨rfl, rfl, rfl⟩, rfl, fun e he => ?_, ?_, List.nodup_nil, by decide, by rfl, List.Pairwise.nil, ?_⟩
  · simp at he
  · exact List.Perm.refl _
  · show _ ∨ (!w.params.followText "set-order") = true
    cases w.params.followText "set-order" with
    | true => exact .inl rfl
    | false => exact .inr rfl
end
section
variable {P : Program} {w : World} {A : Around} {E : Value → Shared → Prop} {s : Shared} {a : Addr}
theorem put_at {h : Heap} {o : Obj} {es es' : Array (Int × Value)} {ep : Nat} {t t' : SetTable} (ho : h.get? a = some o) (hd : o.data = .set es ep t) :
    (h.update a (Obj.putSet es' t')).get? a = some { o with data := .set es' (ep + 1) t' } := by
  have e1 := putSet_of es' t' hd
  have e2 := Heap.get?_update_self (Obj.putSet es' t') ho (by rw [e1]; rfl)
  rw [e1] at e2; exact e2
/-- the new member is laid, the table made wider where it is too full -/
theorem tx_laid {gv : Bool → Sem Unit} (hg : ∀ (b : Bool) (s₁ : Shared) (Q' : Unit → Shared → Prop), Q' () s₁ → wpAny (model P w) A (gv b) Q' E s₁)
    {o : Obj} {es es1 : Array (Int × Value)} {ep : Nat} {t t2 : SetTable} {m : List Str} (ho : s.heap.get? a = some o) (hex : o.ExactSet) (hd : o.data = .set es ep t)
    (g1 : ElemsOf (PySem.strKind P w) es1.toList) (pm1 : (es1.toList.map fun e => txtOf e.2).Perm m) (nd : m.Nodup) (hb1 : es1.size < scanBound) (hf2 : t2.fits es1.size = true) (hr : Ris t2.place.toList)
    (hl : w.params.followText "set-order" = true ∨ t2.led = true) {wasD : Bool} {R : Option Bool → Shared → Prop} (hR : ∀ h', Heap.SameBut a s.heap h' → TxS P w h' a m → R (some true) { s with heap := h' }) :
    wpAny (model P w) A (do
        storeSet a es1 t2
        if (!wasD && t2.tooFull) = true then do
            gv (relayAll t2 es1 (SetTable.grown es1.size)).2.2
            storeSet a (relayAll t2 es1 (SetTable.grown es1.size)).1 (relayAll t2 es1 (SetTable.grown es1.size)).2.1
            pure (some true)
          else pure (some true)) R E s := by
  refine wpAny_bind (wpAny_storeSet_of ho hd ?_ (fits_of_scanBound hb1))
  have ho1 := put_at (es' := es1) (t' := t2) ho hd
  have sb := Heap.SameBut.update s.heap a (Obj.putSet es1 t2)
  split
  · have q1 := relayAll_perm t2 es1 (SetTable.grown es1.size)
    have q2 := relayAll_fits t2 es1 (SetTable.grown es1.size)
    have q3 := L2.relayAll_ris t2 es1 (SetTable.grown es1.size)
    have q4 := L2.relayAll_led t2 es1 (SetTable.grown es1.size)
    generalize relayAll t2 es1 (SetTable.grown es1.size) = W at q1 q2 q3 q4 ⊢
    obtain ⟨es2, t3, gave⟩ := W
    simp only at q1 q2 q3 q4 ⊢
    have hz : es2.size = es1.size := by rw [← Array.length_toList, q1.length_eq, Array.length_toList]
    have hb2 : es2.size < scanBound := by rw [hz]; exact hb1
    refine wpAny_bind (hg _ _ _ (wpAny_bind (wpAny_storeSet_of ho1 rfl ?_ (fits_of_scanBound hb2))))
    refine wpAny_pure (hR _ (sb.trans (Heap.SameBut.update _ a _)) ⟨_, es2, _, t3, put_at (es' := es2) (t' := t3) ho1 rfl, hex, rfl, g1.perm q1, (q1.map _).trans pm1, nd, hb2, q2, q3, hl.imp id fun z => by rw [q4]; exact z⟩)
  · exact wpAny_pure (hR _ sb ⟨_, es1, _, t2, ho1, hex, rfl, g1, pm1, nd, hb1, hf2, hr, hl⟩)
theorem tx_add {m : List Str} {k : Str} {tk : Tok} {Q : Bool → Shared → Prop} (R : TxS P w s.heap a m) (room : m.length + 1 < scanBound)
    (hQ : ∀ b h', Heap.SameBut a s.heap h' → TxS P w h' a (addS m k) → Q b { s with heap := h' }) :
    wpAny (model P w) A (setAddHashed a (.str k tk) ((PySem.strKind P w).hash k)) Q E s := by
  obtain ⟨o, es, ep, t, ho, hex, hd, g, pm, nd, hb, hf, hr, hl⟩ := R
  have hkey : (PySem.strKind P w).is k (.str k tk) = true := PySem.strKind_is P w k tk
  have hsc : (Value.str k tk).scannable = true := rfl
  unfold setAddHashed; unfold setAddHashedIn
  refine wpAny_holding (wpAny_bind (wpAny_setState_of ho hd hf ?_))
  simp only [byScan_of hsc hb g, ↓reduceIte]; unfold setAddByScan
  refine wpAny_bind (wpAny_bind (wpAny_rule (wpAny_bind (wpAny_setScan_of hkey ho hd hf g ?_))))
  cases hfi : List.findIdx? (fun e => (PySem.strKind P w).is k e.2) es.toList with
  | some j =>
    simp only
    obtain ⟨hj, pj, _⟩ := List.findIdx?_eq_some_iff_getElem.mp hfi
    have hin : k ∈ m := (tx_mem g pm k).2 ⟨es.toList[j], List.getElem_mem hj, pj⟩
    refine wpAny_pure (wpAny_pure (hQ _ s.heap (Heap.SameBut.refl a s.heap) ⟨o, es, ep, t, ho, hex, hd, g, ?_, addS_nd nd, hb, hf, hr, hl⟩))
    unfold addS; rw [if_pos hin]; exact pm
  | none =>
    simp only
    have hnk : k ∉ m := fun z => by
      obtain ⟨e, he, q⟩ := (tx_mem g pm k).1 z
      exact absurd (List.findIdx?_eq_none_iff.mp hfi e he) (by rw [q]; decide)
    have hgv : ∀ (b : Bool) {s₁ : Shared} {Q' : Unit → Shared → Prop}, Q' () s₁ → wpAny (model P w) A (match b with | true => rule "set.scan.the-table-gave-way" | false => pure ()) Q' E s₁ := fun b => by
      intro s₁ Q' q
      cases b with
      | true => exact wpAny_rule q
      | false => exact wpAny_pure q
    have q1 := layNew_perm t es ((PySem.strKind P w).hash k) (.str k tk)
    have q2 := layNew_fits t es ((PySem.strKind P w).hash k) (.str k tk)
    have q3 := L2.layNew_ris t es ((PySem.strKind P w).hash k) (.str k tk) hr
    have q4 := L2.layNew_led t es ((PySem.strKind P w).hash k) (.str k tk)
    generalize layNew t es ((PySem.strKind P w).hash k) (.str k tk) = W at q1 q2 q3 q4 ⊢
    obtain ⟨es1, t1, wasD, gave⟩ := W
    simp only at q1 q2 q3 q4 ⊢
    rw [Array.toList_push] at q1
    have g1 : ElemsOf (PySem.strKind P w) es1.toList := (g.push hkey hsc).perm q1
    have pm1 : (es1.toList.map fun e => txtOf e.2).Perm (addS m k) := by
      have z := q1.map fun e => txtOf e.2
      rw [List.map_append] at z
      unfold addS; rw [if_neg hnk]
      exact z.trans ((List.perm_append_singleton _ _).trans (pm.cons k))
    have hz : es1.size = m.length + 1 := by
      rw [← Array.length_toList, q1.length_eq, List.length_append]
      have := pm.length_eq
      rw [List.length_map] at this
      rw [this]; rfl
    have hb1 : es1.size < scanBound := by rw [hz]; exact room
    have hled : w.params.followText "set-order" = true ∨ t1.led = true := hl.imp id fun z => by rw [q4]; exact z
    refine wpAny_bind (hgv _ ?_)
    split
    · refine wpAny_bind ?_
      rw [hashByValue_scannable 8 hsc]
      refine wpAny_pure (tx_laid ?_ ho hex hd g1 pm1 (addS_nd nd) hb1 ?_ ?_ ?_ ?_)
      · intro b s₁ Q' q; exact hgv b q
      · first | (split <;> first | exact q2 | exact SetTable.fits_plain_off q2) | exact q2
      · first | (split <;> exact q3) | exact q3
      · first | (split <;> exact hled) | exact hled
      · intro h' sb r; simp only; exact wpAny_pure (hQ _ h' sb r)
    · refine wpAny_bind (wpAny_pure ?_)
      simp only [↓reduceIte]
      refine tx_laid ?_ ho hex hd g1 pm1 (addS_nd nd) hb1 q2 q3 hled ?_
      · intro b s₁ Q' q; exact hgv b q
      · intro h' sb r; simp only; exact wpAny_pure (hQ _ h' sb r)
end
def nubS (xs : List Str) : List Str := xs.foldl addS []
theorem nubS_snoc (xs : List Str) (k : Str) : nubS (xs ++ [k]) = addS (nubS xs) k := by unfold nubS; rw [List.foldl_append]; rfl
section
variable {P : Program} {w : World} {A : Around} {E : Value → Shared → Prop} {s : Shared}
theorem tx_loop {I : Addr} {fp wr : List Addr} {G : Array GenState → Array GenState → Prop} {n : Nat} {Pv : Nat → Value → Prop} {St : Nat → Shared → Prop} {R : Result → Shared → Prop}
    (W : WalksS P w A.in1 I fp wr G n Pv St) (S : Addr) (hSf : S ∉ fp) (xs : List Str) (hn : n = xs.length) (hb : xs.length + 1 < scanBound) (hval : ∀ i v, Pv i v → ∃ k t, xs[i]? = some k ∧ v = .str k t) :
    ∀ (k i : Nat) (s : Shared), n - i = k → i ≤ n → St i s → (nubS (xs.take i)).length ≤ i → TxS P w s.heap S (nubS (xs.take i)) →
      (∀ s', Moved (S :: wr) G s s' → TxS P w s'.heap S (nubS xs) → (nubS xs).length ≤ n → R (.ok (.ret .none)) s') →
      codeAny (model P w) A (.builtin "set.update.loop" ⟨[.ref S, .ref I], []⟩) R s := by
  have hSw : S ∉ wr := fun h => hSf (W.sub _ h)
  have hsub : ∀ b ∈ wr, b ∈ S :: wr := fun b hb => List.mem_cons_of_mem _ hb
  intro k
  induction k with
  | zero =>
    intro i s hk hi hst hc hS hR
    have hin : i = n := by omega
    subst hin
    refine codeAny_builtin F.entry_set_update_loop ?_
    rw [Around.under_plainId F.plain_set_update_loop _]
    have e : xs.take i = xs := List.take_of_length_le (by omega)
    rw [e] at hS hc
    refine wpAny_bind (m := pyNext (.ref I)) (W.done s _ _ hst fun s' hm => ?_)
    exact wpAny_pure (hR s' (hm.mono hsub) (hS.at fun o e => hm.heap S o hSw e) hc)
  | succ k ih =>
    intro i s hk hi hst hc hS hR
    have hlt : i < n := by omega
    refine codeAny_builtin F.entry_set_update_loop ?_
    rw [Around.under_plainId F.plain_set_update_loop _]
    refine wpAny_bind (m := pyNext (.ref I)) (W.item i s _ _ hlt hst fun v s' hP hst' hm => ?_)
    obtain ⟨z, t, hz, rfl⟩ := hval i v hP
    have hS' : TxS P w s'.heap S (nubS (xs.take i)) := hS.at fun o e => hm.heap S o hSw e
    refine wpAny_bind (m := holding [Value.str z t] (setAdd S (.str z t))) (wpAny_holding ?_)
    unfold setAdd
    refine wpAny_holding (wpAny_bind ((PySem.strKind P w).pyHash (k := z) (PySem.strKind_is _ _ _ _) ?_))
    refine tx_add (s := { s' with toks := s'.toks + 1 }) hS' (by omega) fun b h' sb hS2 => ?_
    have e1 : xs.take (i + 1) = xs.take i ++ [z] := by rw [List.take_add_one, hz]; rfl
    have hS3 : TxS P w h' S (nubS (xs.take (i + 1))) := by rw [e1, nubS_snoc]; exact hS2
    have hc3 : (nubS (xs.take (i + 1))).length ≤ i + 1 := by
      rw [e1, nubS_snoc]
      exact Nat.le_trans addS_len (by omega)
    refine wpAny_pure ⟨plainId_quiet F.plain_set_update_loop _, ih (i + 1) _ (by omega) hlt (W.frame _ s' _ _ hst' (Nat.le_succ _) fun b hb o e => ?_) hc3 hS3 fun s'' hm2 hS4 hc4 => ?_⟩
    · exact (sb.2 b fun h : b = S => hSf (h ▸ hb)).trans e
    · refine hR s'' (Moved.trans W.gtrans ((hm.mono hsub).then_heap (Nat.le_succ _) fun b o hb e => ?_) hm2) hS4 hc4
      exact (sb.2 b fun h : b = S => hb (h ▸ List.mem_cons_self)).trans e
theorem strs_nth : ∀ {us : List Value} {ys : List Str}, StrsAre us ys → ∀ (i : Nat) (v : Value), us[i]? = some v → ∃ t, v = .str (ys.getD i Str.empty) t
  | _, _, .nil, i, v, h => by simp at h
  | _, _, .cons x t _, 0, v, h => by
    simp at h
    exact ⟨t, by rw [← h]; rfl⟩
  | _, _, .cons x t r, i + 1, v, h => by
    obtain ⟨t2, q⟩ := strs_nth r i v (by simpa using h)
    exact ⟨t2, by rw [q]; rfl⟩
/-- the step that fills the new set from the list of texts at l -/
theorem fillTx {h0 : Heap} {l : Addr} {items : Array Value} (xs : List Str) (hh : A.handled = none) (hl : (h0.push (set0 w)).IsList l items) (hlt : l < h0.objs.size) (hi : StrsAre items.toList xs) (hb : xs.length + 1 < scanBound) {R : Result → Shared → Prop} {t : Shared} (ht : t.heap = h0.push (set0 w))
    (h : ∀ (h' : Heap) (tk : Nat), TxS P w h' h0.objs.size (nubS xs) → (nubS xs).length ≤ xs.length → (∀ b o, h0.get? b = some o → h'.get? b = some o) → R (.ok (.ret .none)) { t with heap := h', toks := tk }) :
    codeAny (model P w) A.in1.in1 (.builtin "set.update.loop" ⟨[.ref h0.objs.size, .ref (h0.push (set0 w)).objs.size], []⟩) R { t with heap := (h0.push (set0 w)).push { cls := .type "list_iterator", data := .fields #[.ref l, .int 0 0] } } := by
  have size1 : (h0.push (set0 w)).objs.size = h0.objs.size + 1 := Heap.size_push ..
  have len : items.size = xs.length := by
    have q := StrsAre.length hi
    rwa [Array.length_toList] at q
  have ne1 : l ≠ (h0.push (set0 w)).objs.size := by rw [size1]; exact Nat.ne_of_lt (Nat.lt_succ_of_lt hlt)
  have out : h0.objs.size ∉ [(h0.push (set0 w)).objs.size, l] := by
    rw [size1]
    intro m
    simp only [List.mem_cons, List.not_mem_nil, or_false] at m
    rcases m with m | m
    · exact absurd m (Nat.ne_of_lt (Nat.lt_succ_self _))
    · exact absurd m (Nat.ne_of_gt hlt)
  have at0 : ((h0.push (set0 w)).push { cls := .type "list_iterator", data := .fields #[.ref l, .int 0 0] }).get? h0.objs.size = some (set0 w) := Heap.get?_push_of_some _ (Heap.get?_push_size _ rfl)
  refine tx_loop (P := P) (w := w) ((Walks.list (A := A.in1.in1.in1) (by simpa using hh) _ l ne1 items).toS) h0.objs.size out xs len hb (fun i v e => ?_) (items.size - 0) 0 _ (by omega) (Nat.zero_le _)
    ⟨⟨_, Heap.get?_push_size _ rfl, rfl, rfl⟩, hl.push _⟩ (Nat.le_refl 0) (tx_new at0) fun s' hm hS hc => ?_
  · obtain ⟨tk, e2⟩ := strs_nth hi i v (by rw [Array.getElem?_toList]; exact e)
    have hil : i < xs.length := by rw [← len]; exact (Array.getElem?_eq_some_iff.mp e).1
    refine ⟨xs[i], tk, List.getElem?_eq_getElem hil, ?_⟩
    rw [e2, List.getD_eq_getElem?_getD, List.getElem?_eq_getElem hil]
    rfl
  · obtain ⟨h', g', d', tk', os'⟩ := s'
    obtain rfl : g' = t.gens := hm.gens
    obtain rfl : d' = t.drawn := hm.drawn
    obtain rfl : os' = t.os := hm.os
    refine h h' tk' hS (by rw [← len]; exact hc) fun b o e => hm.heap b o ?_ (Heap.get?_push_of_some _ (Heap.get?_push_of_some _ e))
    have lt := Heap.lt_size e
    rw [size1]
    intro m
    simp only [List.mem_cons, List.not_mem_nil, or_false] at m
    rcases m with m | m
    · exact absurd m (Nat.ne_of_lt lt)
    · exact absurd m (Nat.ne_of_lt (Nat.lt_succ_of_lt lt))
theorem call_setTx {l : Addr} {items : Array Value} (xs : List Str) {Q : Value → Shared → Prop} (hh : A.handled = none) (hl : s.heap.IsList l items) (hit : StrsAre items.toList xs) (hb : xs.length + 1 < scanBound)
    (h : ∀ (h' : Heap) (tk : Nat), TxS P w h' s.heap.objs.size (nubS xs) → (nubS xs).length ≤ xs.length → (∀ b o, s.heap.get? b = some o → h'.get? b = some o) → Q (.ref s.heap.objs.size) { s with heap := h', toks := tk }) :
    wpAny (model P w) A (call (.type "set") [.ref l]) Q E s := by
  obtain ⟨c0, tl, hmro⟩ := F.called_set.mro
  have h0 := F.called_set.made
  have h1 := F.called_set.notType
  have h2 := F.called_set.canCreate
  have h3 := F.called_set.sub
  have h4 := F.typeCall_set_1 (.ref l)
  refine wpAny_call (codeAny_of_tree (show wpAny _ _ (callAny (.type "set") _) _ _ _ from wpAny_pure ⟨Code.quiet_builtin _ (by decide +kernel), codeAny_builtin F.entry_type_call ?_⟩))
  rw [Around.under_plain (weight_type_call_type "set" [.ref l] []) rfl]
  repeat (any_goals (first | assumption | wp_step))
  refine codeAny_mono (code_set_led1 (.ref l) (E := E) (Q₁ := fun obj s₁ => obj = .ref s.heap.objs.size ∧ s₁ = { s with heap := s.heap.push (set0 w) }) ⟨rfl, rfl⟩) fun r s₁ hr => ?_
  cases r with
  | error e => exact hr
  | ok fl =>
    cases fl with
    | ret obj =>
      obtain ⟨rfl, rfl⟩ := hr
      have at0 : (s.heap.push (set0 w)).get? s.heap.objs.size = some (set0 w) := Heap.get?_push_size _ rfl
      have ty : Shared.TypeIs { s with heap := s.heap.push (set0 w) } (.ref s.heap.objs.size) "set" := ⟨_, at0, rfl⟩
      have h5 := F.called_set.init.lookup
      have h6 := F.called_set.init.bind (.ref s.heap.objs.size)
      repeat (any_goals (first | assumption | wp_step))
      refine codeAny_mono (codeAny_call_builtin (R := wants (fun r s₂ => r = .none ∧ ∃ h' tk, s₂ = { s with heap := h', toks := tk } ∧ TxS P w h' s.heap.objs.size (nubS xs) ∧ (nubS xs).length ≤ xs.length ∧
          (∀ b o, s.heap.get? b = some o → h'.get? b = some o)) E) F.called_set.init.plain F.entry_set_init (check_set_init_1 ty ?_)) fun r₂ s₂ hr₂ => ?_
      · obtain ⟨⟨ocls, odict, odata, oslots⟩, hol, hcl, nl, hdl⟩ := hl
        simp only at hcl hdl
        subst hcl hdl
        have hol' : (s.heap.push (set0 w)).get? l = some { cls := .type "list", dict := odict, data := .seq items nl, slots := oslots } := Heap.get?_push_of_some _ hol
        have h7 := F.sub_list_set
        have h8 := F.sub_list_frozenset
        have h9 : (Value.type "list" == Value.type "dict") = false := by decide
        have hL : (s.heap.push (set0 w)).IsList l items := ⟨_, hol', rfl, nl, rfl⟩
        unfold Builtin.«set.__init__» noKeywords Builtin.Frozenset.updateFrom
        generalize hPI : pyIter = PI
        wp_walk
        subst hPI
        refine wpAny_pyIter_list hL (wpAny_bind (wpAny_runValue ?_))
        refine fillTx (A := A) (t := { s with heap := s.heap.push (set0 w) }) xs hh hL (Heap.lt_size hol) hit hb rfl fun h' tk hS hc hk => ?_
        refine wpAny_pure ?_
        show wpAny _ _ (ret Value.none) _ _ _
        exact wpAny_pure ⟨rfl, h', tk, rfl, hS, hc, hk⟩
      · cases r₂ with
        | error e => exact hr₂
        | ok fl₂ =>
          cases fl₂ with
          | ret r =>
            obtain ⟨rfl, h', tk, rfl, hS, hc, hk⟩ := hr₂
            repeat (any_goals (first | assumption | wp_step))
            exact h _ _ hS hc hk
          | _ => exact hr₂.elim
    | _ => exact hr.elim
/-- the members as texts -/
theorem strs_vals : ∀ {vs : List Value}, (∀ v ∈ vs, ∃ k t, v = Value.str k t) → StrsAre vs (vs.map txtOf)
  | [], _ => .nil
  | v :: r, h => by
    obtain ⟨k, t, rfl⟩ := h v List.mem_cons_self
    exact .cons k t (strs_vals fun u hu => h u (List.mem_cons_of_mem _ hu))
/-- sorted(set of texts) -/
theorem sortTx {a : Addr} {m : List Str} {Q : Value → Shared → Prop} (R : TxS P w s.heap a m) (hh : A.handled = none) (h64 : m.length < 64)
    (hQ : ∀ s' p (out : Array Value) (c : Nat), (∀ b o, s.heap.get? b = some o → s'.heap.get? b = some o) → s'.gens = s.gens → s'.os = s.os → s.heap.objs.size ≤ p →
      s'.heap.get? p = some (seqObj "list" out c) → StrsAre out.toList (sortS m) → Q (.ref p) s') :
    wpAny (model P w) A (call (.builtin "sorted") [.ref a]) Q E s := by
  obtain ⟨o, es, ep, t, ho, hex, hd, g, pm, nd, hb, hf, hr, hl⟩ := R
  refine Calls.call_function_entry kind_sorted plain_sorted entry_sorted (args_sorted1 _) ?_
  unfold Builtin.«sorted»
  refine wpAny_bind (m := checkCount "sorted" 1 1 _) (wpAny_pure (wpAny_bind (L2.collect_set (A := A.in1) hh ⟨o, ho, hex.1, hd⟩ hf hb hr hl fun s1 vs k1 hz g1 o1 pv => ?_)))
  have len : vs.length = m.length := by
    have q := pm.length_eq
    rw [List.length_map] at q
    rw [pv.length_eq, List.length_map, q]
  have hS : StrsAre vs (vs.map txtOf) := strs_vals fun v hv => by
    obtain ⟨e, he, q⟩ := List.mem_map.mp (pv.mem_iff.mp hv)
    obtain ⟨⟨k, hk, _⟩, _⟩ := g e he
    obtain ⟨t0, q2⟩ := tx_is hk
    exact ⟨k, t0, by rw [← q]; exact q2⟩
  have pk : (vs.map txtOf).Perm m := by
    have q := pv.map txtOf
    rw [List.map_map] at q
    exact q.trans pm
  refine wpAny_bind (wpAny_newList ?_ (by rw [len, sizeLine_eq]; omega))
  have hoL : (s1.heap.push (seqObj "list" vs.toArray 0)).get? s1.heap.objs.size = some (seqObj "list" vs.toArray 0) := Heap.get?_push_size _ rfl
  refine wpAny_bind (wpAny_holding (wpAny_call_entry PyProof.Rows.slot_list_sort ⟨_, hoL, rfl⟩ PyProof.Rows.entry_list_sort
    (list_sort_treeK strKind_oneLt (s := { s1 with heap := s1.heap.push (seqObj "list" vs.toArray 0) }) hoL hS.keysOf (fun v₁ v₂ rest e => keyKind_strs (by rw [← e]; exact hS)) (by rw [len]; exact h64) fun st' hp hs => ⟨_, rfl, ?_⟩)
    (PyProof.Rows.args_list_sort _)))
  obtain ⟨ys, u1, u2, u3⟩ := sorted_out_str hS hp hs
  obtain ⟨c, hc⟩ := sortedHeap_at (vs := vs) (out := (arrOf st').map (·.2)) hoL
  cases sortS_uniq (u2.trans pk) u3
  refine wpAny_pure ⟨_, rfl, hQ _ s1.heap.objs.size _ c (fun b u e => ?_) g1 o1 hz hc (by simpa using u1)⟩
  have q := k1 b u e
  have hlt := Heap.lt_size q
  show (sortedHeap (s1.heap.push (seqObj "list" vs.toArray 0)) s1.heap.objs.size vs ((arrOf st').map (·.2))).get? b = some u
  rw [sortedHeap_old (Nat.ne_of_lt hlt) (by rw [size_push']; exact Nat.lt_succ_of_lt hlt)]
  exact Heap.get?_push_of_some _ q
end
/-- the texts of a list, each once, rising -/
def ssetS (xs : List Str) : List Str := sortS (nubS xs)
section
variable {X : Cx}
def tSortTx (K : PySem.W.Frag) (ta : TE) : TE := fun σ H Q => ta σ H fun x H1 => ∃ (l : Addr) (xs : List Str), x = V.ref l ∧ SqL K H1 l (xs.map V.str) ∧ xs.length < 63 ∧ ∀ p, H1 p = none → Q (.ref p) (upd H1 p (.lst ((ssetS xs).map V.str)))
theorem pe_sortTx {a : Expr} {ta : TE} {p p2 q pos : Pos} (hg : Gl X "sorted") (hm : X.mg "sorted" = none) (hg2 : Gl X "set") (hm2 : X.mg "set" = none) (ha : PE X a ta) (hc : X.calm = true := by rfl)
    (na : starEach [a] X.env = (false, eval a X.env) :: starEach [] X.env := by rfl) : PE X (.Call (.Name "sorted" p) [.Call (.Name "set" p2) [a] [] q] [] pos) (tSortTx X.K ta) := by
  refine ⟨fun pins s σ H Q I h => ?_⟩
  refine Call_ (ld_blt I hg hm (by boot_by_name) ?_)
  refine PyProof.Rows.callWith_builtin1 (PyProof.Rows.args_cons ?_ rfl) rfl rfl
  refine Call_ (ld_blt I hg2 hm2 boot_set ?_)
  refine PyProof.Rows.callWith_type1 (PyProof.Rows.args_cons (thn (ha.run pins s σ H _ I h) fun v s1 ⟨x, H1, I1, r1, q1⟩ => PyProof.Rows.args_nil ?_) na) na rfl
  obtain ⟨l, xs, rfl, hq, hl, q1⟩ := q1
  cases r1
  obtain ⟨its, r, pl, hz⟩ := I1.list hq
  refine call_setTx (P := X.prog) xs (I1.ok.hd hc) pl.isList (by simpa using strsAre_of r) (by unfold scanBound; omega) fun h' tk hS hcl hk => ?_
  refine PyProof.Rows.args_nil ?_
  have I2 : Inv X pins σ H1 { s1 with heap := h', toks := tk } := I1.kept fun b o e => hk b o e
  refine sortTx hS (I2.ok.hd hc) (by omega) fun s' p out c2 k g o hp hg hi => ?_
  have hlen : ((ssetS xs).map V.str).length ≤ sizeLine := by
    have : (ssetS xs).length = (nubS xs).length := (sortS_perm _).length_eq
    rw [List.length_map, this, sizeLine_eq]; omega
  have hn : H1 p = none := I2.hok.fresh hp
  have J : Inv X pins σ (upd H1 p (.lst ((ssetS xs).map V.str))) { { s1 with heap := h', toks := tk } with heap := s'.heap, gens := s'.gens, drawn := s'.drawn, toks := s'.toks } :=
    I2.call (ch := []) (Un.laid k hp hn) (I2.hok.laid k hp ⟨hlen, out.toList, c2, vals_of_strs hi, hg⟩) (by rw [g]; exact I2.bare) (fun _ z => nomatch z)
  have e : s' = { { s1 with heap := h', toks := tk } with heap := s'.heap, gens := s'.gens, drawn := s'.drawn, toks := s'.toks } := by
    cases s'; cases s1; cases o; rfl
  rw [e]
  exact ⟨.ref p, _, J, rfl, q1 p hn⟩
end
section
variable {K : PySem.W.Frag}
def mSortTx (a : En → Option D) : En → Option (List D) := fun ρ => (a ρ).bind fun x => match x with
  | .list ds => (strsD ds).bind fun ns => if ns.length < 63 then some ((ssetS ns).map PyData.str) else none
  | _ => none
theorem fl_sortTx {ta : TE} {ma : En → Option D} (ha : ET K ta ma) : FL K (tSortTx K ta) (mSortTx ma) := by
  refine ⟨fun {H0 T0 σ ρ H T out} G h Q q => ?_⟩
  obtain ⟨x, hx, h⟩ := bind_some h
  refine ha.run G hx _ fun v H1 s1 d1 p1 => ?_
  split at h
  · obtain ⟨ns, e, h⟩ := bind_some h
    split at h
    · rename_i hz
      cases h
      cases strs_some e
      obtain ⟨a, us, rfl, hs, gu⟩ := dp_lst p1
      cases dpa_strs_v gu
      exact ⟨a, ns, rfl, sql_ov d1 hs, hz, fun p np => q p _ H1 s1 d1 np (dpa_strs _)⟩
    · cases h
  · cases h
theorem strs_map : ∀ ns : List Str, strsD (ns.map PyData.str) = some ns
  | [] => rfl
  | i :: r => by show (strsD _).map _ = _; rw [strs_map r]; rfl
theorem sortTx_of {a : En → Option D} {ρ : En} {ns : List Str} (h : a ρ = some (.list (ns.map .str))) (hz : ns.length < 63) : mSortTx a ρ = some ((ssetS ns).map .str) := by
  unfold mSortTx
  rw [h]
  show (strsD (ns.map PyData.str)).bind _ = _
  rw [strs_map]
  exact if_pos hz
end
end DD

set_option Elab.async false
set_option linter.all false
set_option maxRecDepth 100000
set_option maxHeartbeats 4000000
/-! a second name for one of two lists of one's own, to which something is appended at once -/
namespace DD
open PySem PySem.Spec PyProof.Rows L2
section
variable {K : PySem.W.Frag} {H0 H : Hp} {T0 T : Ov} {σ : L2.St} {ρ : En}
/-- a slot gets a value of which nothing is known -/
theorem Good.hide {i : Nat} {v : Option V} (G : Good K H0 T0 σ ρ H T) : Good K H0 T0 (σ.set i v) (ρ.set i none) H T := by
  refine ⟨by rw [List.length_set, List.length_set]; exact G.len, fun j x h => ?_, fun j x h => ?_, fun j k ds es p h1 h2 h3 h4 => ?_, G.dis, G.ext, G.ex⟩
  · rcases get_set h with ⟨_, q, _⟩ | ⟨e, q⟩
    · cases q
    · obtain ⟨w, a, b⟩ := G.val j x q
      exact ⟨w, by rw [List.getElem?_set_ne (Ne.symm e)]; exact a, b⟩
  · rcases get_set h with ⟨_, q, _⟩ | ⟨e, q⟩
    · cases q
    · obtain ⟨p, xs, a, b⟩ := G.own j x q
      exact ⟨p, xs, by rw [List.getElem?_set_ne (Ne.symm e)]; exact a, b⟩
  · rcases get_set h1 with ⟨_, q, _⟩ | ⟨e1, q1⟩
    · cases q
    · rcases get_set h2 with ⟨_, q, _⟩ | ⟨e2, q2⟩
      · cases q
      · rw [List.getElem?_set_ne (Ne.symm e1)] at h3
        rw [List.getElem?_set_ne (Ne.symm e2)] at h4
        exact G.inj j k ds es p q1 q2 h3 h4
end
def sAli (w : Nat) (c : En → Option Bool) (i j : Nat) (a : En → Option D) : En → Option Fl := fun ρ => (c ρ).bind fun b =>
  if w < ρ.length then match ρ[if b = true then i else j]? with
    | some (some (.own _)) => sAppend (if b = true then i else j) a (ρ.set w none)
    | _ => none
  else none
section
variable {K : PySem.W.Frag} {tc : TT} {te : TE} {mc : En → Option Bool} {ma : En → Option D} {t u v : TS} {m : En → Option Fl}
theorem st_ali {w i j : Nat} (hc : TTm K tc mc) (ha : ET K te ma) :
    TSm K (tSeq (tAsg (tIf tc (tVar i) (tVar j)) (gName w)) (tDrop (tBM K "list" rAppend (tVar w) (tCons te tNil)))) (sAli w mc i j ma) := by
  refine ⟨fun {H0 T0 σ ρ H T f} G h E q => ?_⟩
  obtain ⟨b, hb, h⟩ := bind_some h
  split at h
  · rename_i hw
    split at h
    · rename_i ds0 e0
      refine hc.run G hb _ fun H1 s1 d1 => ?_
      have G1 := G.mono s1 d1
      unfold sAppend at h
      split at h
      · rename_i ds e
        obtain ⟨x, hx, h⟩ := bind_some h
        split at h
        · rename_i hz
          cases h
          obtain ⟨p0, xs0, a0, b0, c0, g0⟩ := G1.own _ ds0 e0
          have G2 := G1.hide (i := w) (v := some (.ref p0))
          have lw : w < σ.length := by rw [← G.len]; exact hw
          have nw : ¬ w = (if b = true then i else j) := fun z => by
            rw [← z, set_self hw] at e
            cases e
          have sk : (σ.set w (some (V.ref p0)))[if b = true then i else j]? = some (some (.ref p0)) := by rw [List.getElem?_set_ne nw]; exact a0
          have core : ∃ v, (σ.set w (some (V.ref p0)))[w]? = some (some v) ∧ (tyV K "list" v (ov H1 T) ∧ tCons te tNil (σ.set w (some (V.ref p0))) (ov H1 T) fun xs H2 => rAppend v xs H2 fun _ H3 => E.nx (σ.set w (some (V.ref p0))) H3) := by
            refine ⟨.ref p0, set_self lw, .inl ⟨rfl, xs0, SqL.of (ov_own b0)⟩, ?_⟩
            refine ha.run G2 hx _ fun y H2 s2 d2 p2 => ?_
            obtain ⟨p, xs, a, b', c, g⟩ := (G2.mono s2 d2).own _ ds e
            rw [sk] at a
            cases a
            refine ⟨p0, xs, y, rfl, rfl, ov_own b', cap_lt (by rw [dpa_len g]; omega), ?_⟩
            rw [upd_put]
            exact q _ _ _ ((G2.mono s2 d2).turn e sk b' (dpa_snoc g p2))
          cases b with
          | true => exact ⟨.ref p0, a0, core⟩
          | false => exact ⟨.ref p0, a0, core⟩
        · cases h
      · cases h
    · cases h
  · cases h
theorem st_assoc (h : TSm K (tSeq (tSeq t u) v) m) : TSm K (tSeq t (tSeq u v)) m := ⟨fun G q E k => h.run G q E k⟩
end
end DD

set_option Elab.async false
set_option linter.all false
set_option maxRecDepth 100000
set_option maxHeartbeats 4000000
/-! several names get new lists at once -/
namespace DD
open PySem PySem.Spec PyProof.Rows L2
section
variable {K : PySem.W.Frag} {H0 H : Hp} {T0 T : Ov} {σ : L2.St} {ρ : En}
theorem Good.lay {p : Addr} {xs : List V} (G : Good K H0 T0 σ ρ H T) (hp : ov H T p = none) : Good K H0 T0 σ ρ H (put T p xs) := by
  obtain ⟨hT, hH⟩ := ov_free hp
  refine ⟨G.len, G.val, fun i ds h => ?_, G.inj, dis_put G.dis hH, fun a ys e => ?_, G.ex⟩
  · obtain ⟨r, ys, a, b, c⟩ := G.own i ds h
    exact ⟨r, ys, a, by rw [put_ne fun z => by rw [z, hT] at b; cases b]; exact b, c⟩
  · have := G.ext a ys e
    rw [put_ne fun z => by rw [z, hT] at this; cases this]
    exact this
theorem Good.apart {p : Addr} (G : Good K H0 T0 σ ρ H T) (h : T p = none) : ∀ (j : Nat) (es : List D), ρ[j]? = some (some (Sl.own es)) → σ[j]? ≠ some (some (.ref p)) := fun j es e z => by
  obtain ⟨r, ys, a, b, _⟩ := G.own j es e
  rw [z] at a
  cases a
  rw [h] at b
  cases b
theorem Good.new0 {p : Addr} (G : Good K H0 T0 σ ρ H T) (h : T p = none) : T0 p = none := by
  cases e : T0 p with
  | none => rfl
  | some ys => have := G.ext p ys e; rw [h] at this; cases this
/-- a list that is laid gets its name -/
theorem Good.adopt {i : Nat} {p : Addr} {xs : List V} {ds : List D} (G : Good K H0 T0 σ ρ H T) (hp : T p = some xs) (h0 : T0 p = none) (g : DpAll K H xs ds)
    (hn : ∀ (j : Nat) (es : List D), ρ[j]? = some (some (Sl.own es)) → σ[j]? ≠ some (some (.ref p))) : Good K H0 T0 (σ.set i (some (.ref p))) (ρ.set i (some (Sl.own ds))) H T := by
  refine ⟨by rw [List.length_set, List.length_set]; exact G.len, fun j x h => ?_, fun j x h => ?_, fun j k as bs r h1 h2 h3 h4 => ?_, G.dis, G.ext, G.ex⟩
  · rcases get_set h with ⟨_, q, _⟩ | ⟨e, q⟩
    · cases q
    · obtain ⟨w, a, b⟩ := G.val j x q
      exact ⟨w, by rw [List.getElem?_set_ne (Ne.symm e)]; exact a, b⟩
  · rcases get_set h with ⟨e, q, l⟩ | ⟨e, q⟩
    · cases q
      subst e
      exact ⟨p, xs, set_self (by rw [← G.len]; exact l), hp, h0, g⟩
    · obtain ⟨r, ys, a, b⟩ := G.own j x q
      exact ⟨r, ys, by rw [List.getElem?_set_ne (Ne.symm e)]; exact a, b⟩
  · rcases get_set h1 with ⟨e1, q1, l1⟩ | ⟨e1, q1⟩
    · rcases get_set h2 with ⟨e2, q2, l2⟩ | ⟨e2, q2⟩
      · rw [e1, e2]
      · subst e1
        rw [set_self (by rw [← G.len]; exact l1)] at h3
        cases h3
        rw [List.getElem?_set_ne (Ne.symm e2)] at h4
        exact absurd h4 (hn k bs q2)
    · rcases get_set h2 with ⟨e2, q2, l2⟩ | ⟨e2, q2⟩
      · subst e2
        rw [set_self (by rw [← G.len]; exact l2)] at h4
        cases h4
        rw [List.getElem?_set_ne (Ne.symm e1)] at h3
        exact absurd h3 (hn j as q1)
      · rw [List.getElem?_set_ne (Ne.symm e1)] at h3
        rw [List.getElem?_set_ne (Ne.symm e2)] at h4
        exact G.inj j k as bs r q1 q2 h3 h4
/-- the other slots stay apart -/
theorem apart_set {i : Nat} {p q : Addr} {ds : List D} (ne : p ≠ q) (h : ∀ (j : Nat) (es : List D), ρ[j]? = some (some (Sl.own es)) → σ[j]? ≠ some (some (.ref q))) (l : ρ.length = σ.length) :
    ∀ (j : Nat) (es : List D), (ρ.set i (some (Sl.own ds)))[j]? = some (some (Sl.own es)) → (σ.set i (some (.ref p)))[j]? ≠ some (some (.ref q)) := fun j es e z => by
  rcases get_set e with ⟨e1, _, l1⟩ | ⟨e1, q1⟩
  · subst e1
    rw [set_self (by rw [← l]; exact l1)] at z
    cases z
    exact ne rfl
  · rw [List.getElem?_set_ne (Ne.symm e1)] at z
    exact h j es q1 z
end
def sParOV (i j : Nat) (a : En → Option (List D)) (b : En → Option D) : En → Option Fl := fun ρ => (a ρ).bind fun x => (b ρ).map fun y => .nx ((ρ.set i (some (.own x))).set j (some (.val y)))
def sParOO (i j : Nat) (a b : En → Option (List D)) : En → Option Fl := fun ρ => (a ρ).bind fun x => (b ρ).map fun y => .nx ((ρ.set i (some (.own x))).set j (some (.own y)))
def sParOOO (i j l : Nat) (a b c : En → Option (List D)) : En → Option Fl := fun ρ => (a ρ).bind fun x => (b ρ).bind fun y => (c ρ).map fun z => .nx (((ρ.set i (some (.own x))).set j (some (.own y))).set l (some (.own z)))
section
variable {K : PySem.W.Frag} {ta tb tc : TE}
theorem st_parOV {i j : Nat} {ma : En → Option (List D)} {mb : En → Option D} (ha : FL K ta ma) (hb : ET K tb mb) : TSm K (tPar i j (tCons ta (tCons tb tNil))) (sParOV i j ma mb) := by
  refine ⟨fun {H0 T0 σ ρ H T f} G h E q => ?_⟩
  obtain ⟨x, hx, h⟩ := bind_some h
  obtain ⟨y, hy, h⟩ := map_some h
  subst h
  refine ha.run G hx _ fun p xs H1 s1 d1 n1 p1 => ?_
  rw [upd_put]
  have G0 := G.mono s1 d1
  have nT := (ov_free n1).1
  have G1 := G0.lay (xs := xs) n1
  refine hb.run G1 hy _ fun w H2 s2 d2 p2 => ⟨.ref p, w, rfl, ?_⟩
  have G2 := G1.mono s2 d2
  exact q _ H2 _ ((G2.adopt put_same (G0.new0 nT) (dpa_mono s2 p1) (G0.apart nT)).set p2)
theorem st_parOO {i j : Nat} {ma mb : En → Option (List D)} (ha : FL K ta ma) (hb : FL K tb mb) : TSm K (tPar i j (tCons ta (tCons tb tNil))) (sParOO i j ma mb) := by
  refine ⟨fun {H0 T0 σ ρ H T f} G h E q => ?_⟩
  obtain ⟨x, hx, h⟩ := bind_some h
  obtain ⟨y, hy, h⟩ := map_some h
  subst h
  refine ha.run G hx _ fun p xs H1 s1 d1 n1 p1 => ?_
  rw [upd_put]
  have G0 := G.mono s1 d1
  have nT := (ov_free n1).1
  have G1 := G0.lay (xs := xs) n1
  refine hb.run G1 hy _ fun r ys H2 s2 d2 n2 p2 => ⟨.ref p, .ref r, rfl, ?_⟩
  rw [upd_put]
  have G2 := G1.mono s2 d2
  have nT2 := (ov_free n2).1
  have ne : p ≠ r := fun z => by rw [← z, put_same] at nT2; cases nT2
  have G3 := G2.lay (xs := ys) n2
  have A := G3.adopt (i := i) (by rw [put_ne ne]; exact put_same) (G0.new0 nT) (dpa_mono s2 p1) (G0.apart nT)
  exact q _ H2 _ (A.adopt put_same (G2.new0 nT2) p2 (apart_set ne (G2.apart nT2) G.len))
theorem st_parOOO {i j l : Nat} {ma mb mc : En → Option (List D)} (ha : FL K ta ma) (hb : FL K tb mb) (hc : FL K tc mc) : TSm K (tPar3 i j l (tCons ta (tCons tb (tCons tc tNil)))) (sParOOO i j l ma mb mc) := by
  refine ⟨fun {H0 T0 σ ρ H T f} G h E q => ?_⟩
  obtain ⟨x, hx, h⟩ := bind_some h
  obtain ⟨y, hy, h⟩ := bind_some h
  obtain ⟨z, hz, h⟩ := map_some h
  subst h
  refine ha.run G hx _ fun p xs H1 s1 d1 n1 p1 => ?_
  rw [upd_put]
  have G0 := G.mono s1 d1
  have nT := (ov_free n1).1
  have G1 := G0.lay (xs := xs) n1
  refine hb.run G1 hy _ fun r ys H2 s2 d2 n2 p2 => ?_
  rw [upd_put]
  have G2 := G1.mono s2 d2
  have nT2 := (ov_free n2).1
  have ne : p ≠ r := fun z => by rw [← z, put_same] at nT2; cases nT2
  have G3 := G2.lay (xs := ys) n2
  refine hc.run G3 hz _ fun u zs H3 s3 d3 n3 p3 => ⟨.ref p, .ref r, .ref u, rfl, ?_⟩
  rw [upd_put]
  have G4 := G3.mono s3 d3
  have nT3 := (ov_free n3).1
  have ne2 : r ≠ u := fun z => by rw [← z, put_same] at nT3; cases nT3
  have ne3 : p ≠ u := fun z => by rw [← z, put_ne ne, put_same] at nT3; cases nT3
  have G5 := G4.lay (xs := zs) n3
  have A := G5.adopt (i := i) (by rw [put_ne ne3, put_ne ne]; exact put_same) (G0.new0 nT) (dpa_mono (s2.trans s3) p1) (G0.apart nT)
  have B := A.adopt (i := j) (by rw [put_ne ne2]; exact put_same) (G2.new0 nT2) (dpa_mono s3 p2) (apart_set ne (G2.apart nT2) G.len)
  exact q _ H3 _ (B.adopt put_same (G4.new0 nT3) p3 (apart_set ne2 (apart_set ne3 (G4.apart nT3) G.len) (by rw [List.length_set, List.length_set]; exact G.len)))
end
section
variable {K : PySem.W.Frag} {ta tb tc : TE}
/-- three new lists by way of a tuple -/
theorem st_tupOOO {i j l : Nat} {ma mb mc : En → Option (List D)} (ha : FL K ta ma) (hb : FL K tb mb) (hc : FL K tc mc) :
    TSm K (tAsg (tTup (tCons ta (tCons tb (tCons tc tNil)))) (gTup K 3 (gCons (gName i) (gCons (gName j) (gCons (gName l) gNil))))) (sParOOO i j l ma mb mc) := by
  refine ⟨fun {H0 T0 σ ρ H T f} G h E q => ?_⟩
  obtain ⟨x, hx, h⟩ := bind_some h
  obtain ⟨y, hy, h⟩ := bind_some h
  obtain ⟨z, hz, h⟩ := map_some h
  subst h
  refine ha.run G hx _ fun p xs H1 s1 d1 n1 p1 => ?_
  rw [upd_put]
  have G0 := G.mono s1 d1
  have nT := (ov_free n1).1
  have G1 := G0.lay (xs := xs) n1
  refine hb.run G1 hy _ fun r ys H2 s2 d2 n2 p2 => ?_
  rw [upd_put]
  have G2 := G1.mono s2 d2
  have nT2 := (ov_free n2).1
  have ne : p ≠ r := fun z => by rw [← z, put_same] at nT2; cases nT2
  have G3 := G2.lay (xs := ys) n2
  refine hc.run G3 hz _ fun u zs H3 s3 d3 n3 p3 => ?_
  rw [upd_put]
  have G4 := G3.mono s3 d3
  have nT3 := (ov_free n3).1
  have ne2 : r ≠ u := fun z => by rw [← z, put_same] at nT3; cases nT3
  have ne3 : p ≠ u := fun z => by rw [← z, put_ne ne, put_same] at nT3; cases nT3
  have G5 := G4.lay (xs := zs) n3
  refine ⟨(show 3 ≤ sizeLine by decide), fun t nt => ?_⟩
  obtain ⟨tT, tH⟩ := ov_free nt
  rw [upd_ov tT]
  have s4 : Same H3 (upd H3 t (.tup [.ref p, .ref r, .ref u])) := same_new tH
  have G6 := G5.mono s4 (dis_upd G5.dis tT)
  refine ⟨t, [.ref p, .ref r, .ref u], rfl, sqt_ov G6.dis (SqT.of upd_same), rfl, .ref p, _, rfl, .ref r, _, rfl, .ref u, _, rfl, rfl, ?_⟩
  have A := G6.adopt (i := i) (by rw [put_ne ne3, put_ne ne]; exact put_same) (G0.new0 nT) (dpa_mono ((s2.trans s3).trans s4) p1) (G0.apart nT)
  have B := A.adopt (i := j) (by rw [put_ne ne2]; exact put_same) (G2.new0 nT2) (dpa_mono (s3.trans s4) p2) (apart_set ne (G2.apart nT2) G.len)
  exact q _ _ _ (B.adopt put_same (G4.new0 nT3) (dpa_mono s4 p3) (apart_set ne2 (apart_set ne3 (G4.apart nT3) G.len) (by rw [List.length_set, List.length_set]; exact G.len)))
end
end DD

set_option Elab.async false
set_option linter.all false
set_option maxRecDepth 100000
set_option maxHeartbeats 4000000
/-! in, of a list or a tuple of flat data -/
namespace DD
open PySem PySem.Spec PyProof.Rows L2
section
variable {K : PySem.W.Frag}
def dInX (neg : Bool) : D → D → Option D
  | x, .list ds => if (flatD x && ds.all flatD) = true then some (.bool (if neg then !(ds.any fun z => PyData.eqv z x) else ds.any fun z => PyData.eqv z x)) else none
  | x, .tuple ds => if (flatD x && ds.all flatD) = true then some (.bool (if neg then !(ds.any fun z => PyData.eqv z x) else ds.any fun z => PyData.eqv z x)) else none
  | _, _ => none
theorem rd_inX {neg : Bool} : RD K (rIn K neg) (dInX neg) := by
  refine ⟨fun {H T x y a b d} dis ha hb h Q q => ?_⟩
  unfold dInX at h
  split at h
  · rename_i ds
    split at h
    · rename_i c
      rw [Bool.and_eq_true] at c
      cases h
      obtain ⟨p, xs, rfl, hs, g⟩ := dp_lst hb
      refine ⟨p, xs, rfl, .inl (sql_ov dis hs), flat_of ha c.1, flatA_of g c.2, ?_⟩
      rw [inV_eqv ha c.1 g c.2]
      exact q _ H (Same.refl H) dis (.bl _)
    · cases h
  · rename_i ds
    split at h
    · rename_i c
      rw [Bool.and_eq_true] at c
      cases h
      obtain ⟨p, xs, rfl, hs, g⟩ := dp_tup hb
      refine ⟨p, xs, rfl, .inr (sqt_ov dis hs), flat_of ha c.1, flatA_of g c.2, ?_⟩
      rw [inV_eqv ha c.1 g c.2]
      exact q _ H (Same.refl H) dis (.bl _)
    · cases h
  · cases h
/-! texts in a row of texts -/
theorem flat_strs_all (l : List Str) : (l.map PyData.str).all flatD = true := by
  rw [List.all_eq_true]
  intro x hx
  obtain ⟨y, _, rfl⟩ := List.mem_map.mp hx
  rfl
theorem eqv_str (a b : Str) : PyData.eqv (.str a) (.str b) = decide (a = b) := by
  show (a == b) = decide (a = b)
  by_cases h : a = b
  · subst h; simp
  · simp [h]
theorem any_strs (n : Str) (l : List Str) : ((l.map PyData.str).any fun z => PyData.eqv z (.str n)) = decide (n ∈ l) := by
  induction l with
  | nil => rfl
  | cons x r ih =>
    rw [List.map_cons, List.any_cons, ih, eqv_str]
    by_cases h : x = n
    · subst h; simp
    · have h2 : ¬ n = x := fun z => h z.symm
      simp [h, h2]
theorem inX_l (n : Str) (l : List Str) : dInX false (.str n) (.list (l.map .str)) = some (.bool (decide (n ∈ l))) := by
  show (if (true && (l.map PyData.str).all flatD) = true then some (PyData.bool (if false = true then !((l.map PyData.str).any fun z => PyData.eqv z (.str n)) else (l.map PyData.str).any fun z => PyData.eqv z (.str n))) else none) = _
  rw [flat_strs_all, any_strs]
  rfl
theorem inX_t (n : Str) (l : List Str) : dInX false (.str n) (.tuple (l.map .str)) = some (.bool (decide (n ∈ l))) := by
  show (if (true && (l.map PyData.str).all flatD) = true then some (PyData.bool (if false = true then !((l.map PyData.str).any fun z => PyData.eqv z (.str n)) else (l.map PyData.str).any fun z => PyData.eqv z (.str n))) else none) = _
  rw [flat_strs_all, any_strs]
  rfl
theorem ninX_l (n : Str) (l : List Str) : dInX true (.str n) (.list (l.map .str)) = some (.bool (!decide (n ∈ l))) := by
  show (if (true && (l.map PyData.str).all flatD) = true then some (PyData.bool (if true = true then !((l.map PyData.str).any fun z => PyData.eqv z (.str n)) else (l.map PyData.str).any fun z => PyData.eqv z (.str n))) else none) = _
  rw [flat_strs_all, any_strs]
  rfl
theorem ninX_t (n : Str) (l : List Str) : dInX true (.str n) (.tuple (l.map .str)) = some (.bool (!decide (n ∈ l))) := by
  show (if (true && (l.map PyData.str).all flatD) = true then some (PyData.bool (if true = true then !((l.map PyData.str).any fun z => PyData.eqv z (.str n)) else (l.map PyData.str).any fun z => PyData.eqv z (.str n))) else none) = _
  rw [flat_strs_all, any_strs]
  rfl
end
end DD

set_option Elab.async false
set_option linter.all false
set_option maxRecDepth 100000
set_option maxHeartbeats 4000000
/-! how many texts there are in a row; tuples of the top -/
namespace DD
open PySem PySem.Spec PyProof.Rows L2
section
variable {P : Program} {w : World} {A : Around} {E : Value → Shared → Prop} {s : Shared}
/-- the step that fills the new set from the tuple of texts at l -/
theorem fillTxT {h0 : Heap} {l : Addr} {items : Array Value} (xs : List Str) (hh : A.handled = none) (hl : (h0.push (set0 w)).IsTuple l items) (hlt : l < h0.objs.size) (hi : StrsAre items.toList xs) (hb : xs.length + 1 < scanBound) {R : Result → Shared → Prop} {t : Shared} (ht : t.heap = h0.push (set0 w))
    (h : ∀ (h' : Heap) (tk : Nat), TxS P w h' h0.objs.size (nubS xs) → (nubS xs).length ≤ xs.length → (∀ b o, h0.get? b = some o → h'.get? b = some o) → R (.ok (.ret .none)) { t with heap := h', toks := tk }) :
    codeAny (model P w) A.in1.in1 (.builtin "set.update.loop" ⟨[.ref h0.objs.size, .ref (h0.push (set0 w)).objs.size], []⟩) R { t with heap := (h0.push (set0 w)).push { cls := .type "tuple_iterator", data := .fields #[.ref l, .int 0 0] } } := by
  have size1 : (h0.push (set0 w)).objs.size = h0.objs.size + 1 := Heap.size_push ..
  have len : items.size = xs.length := by
    have q := StrsAre.length hi
    rwa [Array.length_toList] at q
  have ne1 : l ≠ (h0.push (set0 w)).objs.size := by rw [size1]; exact Nat.ne_of_lt (Nat.lt_succ_of_lt hlt)
  have out : h0.objs.size ∉ [(h0.push (set0 w)).objs.size, l] := by
    rw [size1]
    intro m
    simp only [List.mem_cons, List.not_mem_nil, or_false] at m
    rcases m with m | m
    · exact absurd m (Nat.ne_of_lt (Nat.lt_succ_self _))
    · exact absurd m (Nat.ne_of_gt hlt)
  have at0 : ((h0.push (set0 w)).push { cls := .type "tuple_iterator", data := .fields #[.ref l, .int 0 0] }).get? h0.objs.size = some (set0 w) := Heap.get?_push_of_some _ (Heap.get?_push_size _ rfl)
  refine tx_loop (P := P) (w := w) ((Walks.tuple (A := A.in1.in1.in1) (by simpa using hh) _ l ne1 items).toS) h0.objs.size out xs len hb (fun i v e => ?_) (items.size - 0) 0 _ (by omega) (Nat.zero_le _)
    ⟨⟨_, Heap.get?_push_size _ rfl, rfl, rfl⟩, hl.push _⟩ (Nat.le_refl 0) (tx_new at0) fun s' hm hS hc => ?_
  · obtain ⟨tk, e2⟩ := strs_nth hi i v (by rw [Array.getElem?_toList]; exact e)
    have hil : i < xs.length := by rw [← len]; exact (Array.getElem?_eq_some_iff.mp e).1
    refine ⟨xs[i], tk, List.getElem?_eq_getElem hil, ?_⟩
    rw [e2, List.getD_eq_getElem?_getD, List.getElem?_eq_getElem hil]
    rfl
  · obtain ⟨h', g', d', tk', os'⟩ := s'
    obtain rfl : g' = t.gens := hm.gens
    obtain rfl : d' = t.drawn := hm.drawn
    obtain rfl : os' = t.os := hm.os
    refine h h' tk' hS (by rw [← len]; exact hc) fun b o e => hm.heap b o ?_ (Heap.get?_push_of_some _ (Heap.get?_push_of_some _ e))
    have lt := Heap.lt_size e
    rw [size1]
    intro m
    simp only [List.mem_cons, List.not_mem_nil, or_false] at m
    rcases m with m | m
    · exact absurd m (Nat.ne_of_lt lt)
    · exact absurd m (Nat.ne_of_lt (Nat.lt_succ_of_lt lt))
theorem call_setTxT {l : Addr} {items : Array Value} (xs : List Str) {Q : Value → Shared → Prop} (hh : A.handled = none) (hl : s.heap.IsTuple l items) (hit : StrsAre items.toList xs) (hb : xs.length + 1 < scanBound)
    (h : ∀ (h' : Heap) (tk : Nat), TxS P w h' s.heap.objs.size (nubS xs) → (nubS xs).length ≤ xs.length → (∀ b o, s.heap.get? b = some o → h'.get? b = some o) → Q (.ref s.heap.objs.size) { s with heap := h', toks := tk }) :
    wpAny (model P w) A (call (.type "set") [.ref l]) Q E s := by
  obtain ⟨c0, tl, hmro⟩ := F.called_set.mro
  have h0 := F.called_set.made
  have h1 := F.called_set.notType
  have h2 := F.called_set.canCreate
  have h3 := F.called_set.sub
  have h4 := F.typeCall_set_1 (.ref l)
  refine wpAny_call (codeAny_of_tree (show wpAny _ _ (callAny (.type "set") _) _ _ _ from wpAny_pure ⟨Code.quiet_builtin _ (by decide +kernel), codeAny_builtin F.entry_type_call ?_⟩))
  rw [Around.under_plain (weight_type_call_type "set" [.ref l] []) rfl]
  repeat (any_goals (first | assumption | wp_step))
  refine codeAny_mono (code_set_led1 (.ref l) (E := E) (Q₁ := fun obj s₁ => obj = .ref s.heap.objs.size ∧ s₁ = { s with heap := s.heap.push (set0 w) }) ⟨rfl, rfl⟩) fun r s₁ hr => ?_
  cases r with
  | error e => exact hr
  | ok fl =>
    cases fl with
    | ret obj =>
      obtain ⟨rfl, rfl⟩ := hr
      have at0 : (s.heap.push (set0 w)).get? s.heap.objs.size = some (set0 w) := Heap.get?_push_size _ rfl
      have ty : Shared.TypeIs { s with heap := s.heap.push (set0 w) } (.ref s.heap.objs.size) "set" := ⟨_, at0, rfl⟩
      have h5 := F.called_set.init.lookup
      have h6 := F.called_set.init.bind (.ref s.heap.objs.size)
      repeat (any_goals (first | assumption | wp_step))
      refine codeAny_mono (codeAny_call_builtin (R := wants (fun r s₂ => r = .none ∧ ∃ h' tk, s₂ = { s with heap := h', toks := tk } ∧ TxS P w h' s.heap.objs.size (nubS xs) ∧ (nubS xs).length ≤ xs.length ∧
          (∀ b o, s.heap.get? b = some o → h'.get? b = some o)) E) F.called_set.init.plain F.entry_set_init (check_set_init_1 ty ?_)) fun r₂ s₂ hr₂ => ?_
      · obtain ⟨⟨ocls, odict, odata, oslots⟩, hol, hcl, nl, hdl⟩ := hl
        simp only at hcl hdl
        subst hcl hdl
        have hol' : (s.heap.push (set0 w)).get? l = some { cls := .type "tuple", dict := odict, data := .seq items nl, slots := oslots } := Heap.get?_push_of_some _ hol
        have h7 := F.sub_tuple_set
        have h8 := F.sub_tuple_frozenset
        have h9 : (Value.type "tuple" == Value.type "dict") = false := by decide
        have hL : (s.heap.push (set0 w)).IsTuple l items := ⟨_, hol', rfl, nl, rfl⟩
        unfold Builtin.«set.__init__» noKeywords Builtin.Frozenset.updateFrom
        generalize hPI : pyIter = PI
        wp_walk
        subst hPI
        refine wpAny_pyIter_tuple hL (wpAny_bind (wpAny_runValue ?_))
        refine fillTxT (A := A) (t := { s with heap := s.heap.push (set0 w) }) xs hh hL (Heap.lt_size hol) hit hb rfl fun h' tk hS hc hk => ?_
        refine wpAny_pure ?_
        show wpAny _ _ (ret Value.none) _ _ _
        exact wpAny_pure ⟨rfl, h', tk, rfl, hS, hc, hk⟩
      · cases r₂ with
        | error e => exact hr₂
        | ok fl₂ =>
          cases fl₂ with
          | ret r =>
            obtain ⟨rfl, h', tk, rfl, hS, hc, hk⟩ := hr₂
            repeat (any_goals (first | assumption | wp_step))
            exact h _ _ hS hc hk
          | _ => exact hr₂.elim
    | _ => exact hr.elim
end
section
variable {X : Cx}
def tLenTx (K : PySem.W.Frag) (ta : TE) : TE := fun σ H Q => ta σ H fun x H1 => ∃ (l : Addr) (xs : List Str), x = V.ref l ∧ (SqL K H1 l (xs.map V.str) ∨ SqT K H1 l (xs.map V.str)) ∧ xs.length < 63 ∧ Q (.int ((nubS xs).length : Nat)) H1
theorem pe_lenTx {a : Expr} {ta : TE} {p p2 q pos : Pos} (hg : Gl X "len") (hm : X.mg "len" = none) (hg2 : Gl X "set") (hm2 : X.mg "set" = none) (ha : PE X a ta) (hc : X.calm = true := by rfl)
    (na : starEach [a] X.env = (false, eval a X.env) :: starEach [] X.env := by rfl) : PE X (.Call (.Name "len" p) [.Call (.Name "set" p2) [a] [] q] [] pos) (tLenTx X.K ta) := by
  refine ⟨fun pins s σ H Q I h => ?_⟩
  refine Call_ (ld_blt I hg hm boot_len ?_)
  refine PyProof.Rows.callWith_builtin1 (PyProof.Rows.args_cons ?_ rfl) rfl rfl
  refine Call_ (ld_blt I hg2 hm2 boot_set ?_)
  refine PyProof.Rows.callWith_type1 (PyProof.Rows.args_cons (thn (ha.run pins s σ H _ I h) fun v s1 ⟨x, H1, I1, r1, q1⟩ => PyProof.Rows.args_nil ?_) na) na rfl
  obtain ⟨l, xs, rfl, hq, h1, q1⟩ := q1
  cases r1
  have fin : ∀ (h' : Heap) (tk : Nat), TxS X.prog X.w h' s1.heap.objs.size (nubS xs) → (nubS xs).length ≤ xs.length → (∀ b o, s1.heap.get? b = some o → h'.get? b = some o) →
      wpAny (model X.prog X.w) X.A (spliced (backTo pos (starEach [] X.env))) (fun vs s₂ => wpAny (model X.prog X.w) X.A (call (.builtin "len") (Value.ref s1.heap.objs.size :: vs)) (EP X pins σ Q) X.xe s₂) X.xe { s1 with heap := h', toks := tk } := fun h' tk hS hl hk => by
    refine PyProof.Rows.args_nil ?_
    obtain ⟨o, es, ep, t, ho, hex, hd, _, pm, _, _, hf, _⟩ := hS
    have hn : es.size = (nubS xs).length := by
      have := pm.length_eq
      rw [List.length_map] at this
      exact this
    have I2 : Inv X pins σ H1 { s1 with heap := h', toks := tk } := I1.kept fun b o e => hk b o e
    refine call_len_set ho hex hd hf (by rw [hn]; omega) ⟨.int ((nubS xs).length : Nat), H1, I2.tok _, ⟨_, by rw [hn]⟩, q1⟩
  rcases hq with hq | hq
  · obtain ⟨its, r, pl, hz⟩ := I1.list hq
    exact call_setTx (P := X.prog) xs (I1.ok.hd hc) pl.isList (by simpa using strsAre_of r) (by unfold scanBound; omega) fun h' tk hS hl hk => fin h' tk hS hl hk
  · obtain ⟨its, r, pl, hz⟩ := I1.tuple hq
    exact call_setTxT (P := X.prog) xs (I1.ok.hd hc) pl (by simpa using strsAre_of r) (by unfold scanBound; omega) fun h' tk hS hl hk => fin h' tk hS hl hk
end
section
variable {K : PySem.W.Frag}
def mLenTx (a : En → Option D) : En → Option D := fun ρ => (a ρ).bind fun x => match x with
  | .list ds => (strsD ds).bind fun ns => if ns.length < 63 then some (.int ((nubS ns).length : Nat)) else none
  | .tuple ds => (strsD ds).bind fun ns => if ns.length < 63 then some (.int ((nubS ns).length : Nat)) else none
  | _ => none
theorem ev_lenTx {ta : TE} {ma : En → Option D} (ha : ET K ta ma) : ET K (tLenTx K ta) (mLenTx ma) := by
  refine ⟨fun {H0 T0 σ ρ H T d} G h Q q => ?_⟩
  obtain ⟨x, hx, h⟩ := bind_some h
  refine ha.run G hx _ fun v H1 s1 d1 p1 => ?_
  split at h
  · obtain ⟨ns, e, h⟩ := bind_some h
    split at h
    · rename_i hz
      cases h
      cases strs_some e
      obtain ⟨a, us, rfl, hs, gu⟩ := dp_lst p1
      cases dpa_strs_v gu
      exact ⟨a, ns, rfl, .inl (sql_ov d1 hs), hz, q _ H1 s1 d1 (.int _)⟩
    · cases h
  · obtain ⟨ns, e, h⟩ := bind_some h
    split at h
    · rename_i hz
      cases h
      cases strs_some e
      obtain ⟨a, us, rfl, hs, gu⟩ := dp_tup p1
      cases dpa_strs_v gu
      exact ⟨a, ns, rfl, .inr (sqt_ov d1 hs), hz, q _ H1 s1 d1 (.int _)⟩
    · cases h
  · cases h
/-- a tuple of the top -/
theorem tup_const {a : Addr} {od : Option Addr} {its : Array Value} {n : Nat} {sl : Array (Option Value)} {ds : List D} (t : K.lookup a = some ⟨.type "tuple", od, .seq its n, sl⟩) (z : its.size ≤ 1000) (u : deVs (deV K 2) its.toList = some ds) :
    ∀ H, Dp K H (.ref a) (.tuple ds) := by
  obtain ⟨v, r, g⟩ := deV_ok 3 _ (deV_tup t z u)
  have : v = .ref a := by
    cases v <;> first | (cases r; rfl) | (obtain ⟨_, z⟩ := r; cases z) | cases r
  subst this
  exact g
end
end DD

set_option Elab.async false
set_option linter.all false
set_option maxRecDepth 100000
set_option maxHeartbeats 4000000
/-! sorted of a tuple of texts; slices of lists of which nothing is known -/
namespace DD
open PySem PySem.Spec PyProof.Rows L2
section
variable {P : Program} {w : World} {A : Around} {E : Value → Shared → Prop} {s : Shared}
abbrev fillH (h : Heap) (vs : List Value) : Heap := (h.push (seqObj "list" #[] 0)).update h.objs.size (Obj.mapSeq (· ++ vs.toArray))
theorem fromTup {l : Addr} {vs : List Value} {Q : List Value → Shared → Prop} (hl : s.heap.IsTuple l vs.toArray) (hz : vs.length ≤ sizeLine) (h : Q vs { s with heap := fillH s.heap vs }) :
    wpAny (model P w) A (collect (.ref l)) Q E s := by
  obtain ⟨o, ho, hc, n, hd⟩ := id hl
  have hn : (s.heap.push (seqObj "list" #[] 0)).get? s.heap.objs.size = some (seqObj "list" #[] 0) := Heap.get?_push_size _ rfl
  have ho1 : (s.heap.push (seqObj "list" #[] 0)).get? l = some o := Heap.get?_push_of_some _ ho
  have h1 : (Value.type "tuple" == Value.type "list") = false := by decide
  have h2 : (Value.type "tuple" == Value.type "tuple") = true := by decide
  unfold collect
  refine wpAny_bind (wpAny_runValue (codeAny_builtin entry_proto_collect' ?_))
  show wpAny _ _ (do again (.builtin "list.__iadd__" ⟨[← newList [], .ref l], []⟩)) _ _ s
  refine wpAny_bind (wpAny_newList (wpAny_pure ⟨Code.quiet_builtin _ (by decide +kernel), codeAny_builtin entry_list_iadd' (show wpAny _ _ (Builtin.List.listExtendWith (.ref s.heap.objs.size) (.ref l) (.ref s.heap.objs.size)) _ _ { s with heap := s.heap.push (seqObj "list" #[] 0) } from ?_)⟩))
  unfold Builtin.List.listExtendWith
  refine wpAny_bind (wpAny_typeOf (T := "tuple") ⟨o, ho1, hc⟩ ?_)
  rw [if_pos (by rw [h1, h2]; simp)]
  refine wpAny_bind (listItems_at ho1 hd (wpAny_bind (listItems_at (xs := #[]) (n := 0) hn rfl ?_)))
  rw [if_neg (by simp)]
  refine wpAny_bind (listUpdate_at (xs := #[]) (n := 0) hn rfl (wpAny_pure ?_) (Nat.zero_le _) ?_)
  · show wpAny (model P w) A (load s.heap.objs.size >>= _) Q E { s with heap := fillH s.heap vs }
    refine wpAny_bind (wpAny_load (get?_update_seq hn _) ?_)
    have e : ((#[] : Array Value) ++ vs.toArray).toList = vs := by simp
    show wpAny _ _ (pure ((#[] : Array Value) ++ vs.toArray).toList) Q E _
    rw [e]; exact wpAny_pure h
  · show (#[] ++ vs.toArray).size ≤ sizeLine + 1
    simp only [Array.size_append, List.size_toArray, List.length_nil]; omega
theorem sortTup {l : Addr} {vs : List Value} {xs : List Str} {Q : Value → Shared → Prop} (hl : s.heap.IsTuple l vs.toArray) (hS : StrsAre vs xs) (h64 : vs.length < 64)
    (h : ∀ out : Array Value, StrsAre out.toList (sortS xs) → Q (.ref (s.heap.objs.size + 1)) { s with heap := sortedAll s.heap vs out }) :
    wpAny (model P w) A (call (.builtin "sorted") [.ref l]) Q E s := by
  refine Calls.call_function_entry kind_sorted plain_sorted entry_sorted (args_sorted1 _) ?_
  unfold Builtin.«sorted»
  have hz : vs.length ≤ sizeLine := by rw [sizeLine_eq]; omega
  refine wpAny_bind (m := checkCount "sorted" 1 1 _) (wpAny_pure (wpAny_bind (fromTup hl hz (wpAny_bind (wpAny_newList ?_ hz)))))
  have sz : (fillH s.heap vs).objs.size = s.heap.objs.size + 1 := by
    unfold fillH
    rw [Heap.size_update, size_push']
  have hoL : ((fillH s.heap vs).push (seqObj "list" vs.toArray 0)).get? (s.heap.objs.size + 1) = some (seqObj "list" vs.toArray 0) := by rw [← sz]; exact Heap.get?_push_size _ rfl
  show wpAny _ _ _ _ _ { s with heap := (fillH s.heap vs).push (seqObj "list" vs.toArray 0) }
  rw [sz]
  refine wpAny_bind (wpAny_holding (wpAny_call_entry PyProof.Rows.slot_list_sort ⟨_, hoL, rfl⟩ PyProof.Rows.entry_list_sort
    (list_sort_treeK strKind_oneLt (s := { s with heap := (fillH s.heap vs).push (seqObj "list" vs.toArray 0) }) hoL hS.keysOf (fun v₁ v₂ rest e => keyKind_strs (by rw [← e]; exact hS)) h64 fun st' hp hs => ⟨_, rfl, ?_⟩)
    (PyProof.Rows.args_list_sort _)))
  obtain ⟨ys, u1, u2, u3⟩ := sorted_out_str hS hp hs
  cases sortS_uniq u2 u3
  exact wpAny_pure ⟨_, rfl, h _ (by simpa using u1)⟩
end
section
variable {X : Cx}
def rSortT (K : PySem.W.Frag) : List V → Hp → VK → Prop := fun vs H Q => ∃ (a : Addr) (xs : List Str), vs = [V.ref a] ∧ (SqL K H a (xs.map V.str) ∨ SqT K H a (xs.map V.str)) ∧ xs.length < 64 ∧ ∀ p, H p = none → Q (.ref p) (upd H p (.lst ((sortS xs).map V.str)))
theorem cr_sortT' : CallR X (.builtin "sorted") (rSortT X.K) := by
  intro pins s σ H vs us Q I r h
  obtain ⟨a, xs, rfl, hs | hs, h64, q⟩ := h
  · exact cr_sortedS pins s σ H _ us Q I r ⟨a, xs, rfl, hs, h64, fun ys p h1 h2 h3 => by cases sortS_uniq h1 h2; exact q p h3⟩
  · obtain ⟨its, rv, hl, hz⟩ := I.tuple hs
    rw [Vals.ref1 r]
    have len := rv.length
    rw [List.length_map] at len
    refine sortTup hl rv.strs (by rw [← len]; exact h64) fun out h1 => ?_
    obtain ⟨ep, he⟩ := PyProof.Rows.sortedAll_at s.heap its out
    have hlen : ((sortS xs).map V.str).length ≤ sizeLine := by rw [List.length_map, (sortS_perm xs).length_eq, sizeLine_eq]; omega
    exact ⟨.ref _, upd H (s.heap.objs.size + 1) (.lst ((sortS xs).map V.str)), I.laid (t' := s.toks) (fun _ _ => PyProof.Rows.sortedAll_old) (Nat.le_succ _) ⟨hlen, out.toList, ep, vals_of_strs h1, he⟩, rfl, q _ (I.hok.fresh (Nat.le_succ _))⟩
end
section
variable {K : PySem.W.Frag}
def dSortT : List D → Option (List D)
  | [.list ds] => (strsD ds).bind fun ns => if ns.length < 64 then some ((sortS ns).map PyData.str) else none
  | [.tuple ds] => (strsD ds).bind fun ns => if ns.length < 64 then some ((sortS ns).map PyData.str) else none
  | _ => none
theorem cl_sortT : CL K (rSortT K) dSortT := by
  refine ⟨?_⟩
  intro H T vs ds out dis g h Q q
  unfold dSortT at h
  split at h
  · obtain ⟨ns, e, h⟩ := bind_some h
    split at h
    · rename_i hz
      cases h
      cases strs_some e
      obtain ⟨v, rfl, g2⟩ := dpa_one g
      obtain ⟨a, us, rfl, hs, gu⟩ := dp_lst g2
      cases dpa_strs_v gu
      exact ⟨a, ns, rfl, .inl (sql_ov dis hs), hz, fun p hn => q p _ H (Same.refl H) dis hn (dpa_strs _)⟩
    · cases h
  · obtain ⟨ns, e, h⟩ := bind_some h
    split at h
    · rename_i hz
      cases h
      cases strs_some e
      obtain ⟨v, rfl, g2⟩ := dpa_one g
      obtain ⟨a, us, rfl, hs, gu⟩ := dp_tup g2
      cases dpa_strs_v gu
      exact ⟨a, ns, rfl, .inr (sqt_ov dis hs), hz, fun p hn => q p _ H (Same.refl H) dis hn (dpa_strs _)⟩
    · cases h
  · cases h
/-! slices of lists, tuples and texts -/
def dSlY (d : D) (lo hi : Option Int) : Option D := match d with
  | .list ds => some (.list (cutD ds lo hi))
  | d => dSl d lo hi
def mSlY (a : En → Option D) (l h : En → Option (Option Int)) : En → Option D := fun ρ => (a ρ).bind fun x => (l ρ).bind fun lo => (h ρ).bind fun hi => dSlY x lo hi
def rSlY (K : PySem.W.Frag) : V → Option Int → Option Int → Hp → VK → Prop := fun x lo hi H Q => rSlX K x lo hi H Q ∨ rSlL K x lo hi H Q
theorem sl_any2 {X : Cx} : SlR X (rSlY X.K) := SlR.or sl_any sl_list
theorem ev_slY {ta : TE} {tl th : TO} {ma : En → Option D} {ml mh : En → Option (Option Int)} (ha : ET K ta ma) (hl : PAm K tl ml) (hh : PAm K th mh) : ET K (tSl (rSlY K) ta tl th) (mSlY ma ml mh) := by
  refine ⟨fun {H0 T0 σ ρ H T d} G h Q q => ?_⟩
  obtain ⟨x, hx, h1⟩ := bind_some h
  obtain ⟨lo, hlo, h2⟩ := bind_some h1
  obtain ⟨hi, hhi, h3⟩ := bind_some h2
  refine ha.run G hx _ fun v H1 s1 d1 p1 => ?_
  refine hl.run (G.mono s1 d1) hlo _ fun H2 s2 d2 => ?_
  refine hh.run ((G.mono s1 d1).mono s2 d2) hhi _ fun H3 s3 d3 => ?_
  have p3 := dp_mono (s2.trans s3) p1
  unfold dSlY at h3
  split at h3
  · cases h3
    obtain ⟨p, xs, rfl, hs, g⟩ := dp_lst p3
    refine .inr ⟨p, xs, rfl, sql_ov d3 hs, fun r nr => ?_⟩
    obtain ⟨nT, nH⟩ := ov_free nr
    rw [upd_ov nT]
    have s4 : Same H3 (upd H3 r (.lst (cutV xs lo hi))) := same_new nH
    exact q _ _ (((s1.trans s2).trans s3).trans s4) (dis_upd d3 nT) (.lst (SqL.of upd_same) (dpa_mono s4 (dpa_cut g lo hi)))
  · have E0 : ET K (tSl (rSlX K) ta tl th) (mSl ma ml mh) := ev_sl ha hl hh
    refine .inl ?_
    unfold dSl at h3
    split at h3
    · rename_i ds _
      cases h3
      obtain ⟨p, xs, rfl, hs, g⟩ := dp_tup p3
      refine .inl ⟨p, xs, rfl, sqt_ov d3 hs, fun hw => ?_, fun hw r nr => ?_⟩
      · have e : cutD ds lo hi = ds := by
          unfold cutD
          rw [← dpa_len g, hw.1, hw.2]
          rw [dpa_len g]
          simp
        exact q _ H3 ((s1.trans s2).trans s3) d3 (by rw [e]; exact p3)
      · obtain ⟨nT, nH⟩ := ov_free nr
        rw [upd_ov nT]
        have s4 : Same H3 (upd H3 r (.tup (cutV xs lo hi))) := same_new nH
        exact q _ _ (((s1.trans s2).trans s3).trans s4) (dis_upd d3 nT) (.tup (SqT.of upd_same) (dpa_mono s4 (dpa_cut g lo hi)))
    · rename_i z _
      split at h3
      · rename_i hz
        cases h3
        cases dp_str p3
        exact .inr ⟨z, rfl, cap_line hz, q _ H3 ((s1.trans s2).trans s3) d3 (.str _)⟩
      · cases h3
    · cases h3
end
end DD

set_option Elab.async false
set_option linter.all false
set_option maxRecDepth 100000
set_option maxHeartbeats 4000000
/-! what may be raised, and caught; item = .., str(..), join, split -/
namespace DD
open PySem PySem.Spec PyProof.Rows L2
/-- what a def comes to: a datum, or an exception of the class with this name -/
inductive Rs where
  | ok (d : D)
  | ex (c : Nat)
inductive FlX where
  | fl (f : Fl)
  | ex (c : Nat) (ρ : En)
section
variable (K : PySem.W.Frag) (cl : Nat → Addr)
def RsOk (H : Hp) (T : Ov) (Q : VK) (E : XK) : Rs → Prop
  | .ok d => ∀ v H', Same H H' → Dis H' T → Dp K H' v d → Q v (ov H' T)
  | .ex c => ∀ H', Same H H' → Dis H' T → E (.ref (cl c)) none (ov H' T)
def spX (n : Nat) (m : List D → Option Rs) : Sp := fun vs Hx Q E => ∃ ds r H T, DpAll K H vs ds ∧ ds.length = n ∧ m ds = some r ∧ Hx = ov H T ∧ Dis H T ∧ RsOk K cl H T Q E r
structure EX (te : WX → TE) (m : En → Option Rs) : Prop where
  run : ∀ {H0 : Hp} {T0 : Ov} {σ : L2.St} {ρ : En} {H : Hp} {T : Ov} {r : Rs}, Good K H0 T0 σ ρ H T → m ρ = some r → ∀ (W : WX) (Q : VK), RsOk K cl H T Q (fun c d h => W c d σ h) r → te W σ (ov H T) Q
def FlXOk (H0 : Hp) (T0 : Ov) (E : Ends) (W : WX) : FlX → Prop
  | .fl f => FlOk K H0 T0 E f
  | .ex c ρ => ∀ σ H T, Good K H0 T0 σ ρ H T → W (.ref (cl c)) none σ (ov H T)
structure SX (t : WX → TS) (m : En → Option FlX) : Prop where
  run : ∀ {H0 : Hp} {T0 : Ov} {σ : L2.St} {ρ : En} {H : Hp} {T : Ov} {x : FlX}, Good K H0 T0 σ ρ H T → m ρ = some x → ∀ (W : WX) (E : Ends), FlXOk K cl H0 T0 E W x → t W E σ (ov H T)
end
def okR : Rs → Option D
  | .ok d => some d
  | .ex _ => none
def limX (n : Nat) (m : List D → Option Rs) : List D → Option D := fun ds => if ds.length = n then (m ds).bind okR else none
def xLift (m : En → Option D) : En → Option Rs := fun ρ => (m ρ).map .ok
def xCall (n : Nat) (mf : List D → Option Rs) (m : En → Option (List D)) : En → Option Rs := fun ρ => (m ρ).bind fun ds => if ds.length = n then mf ds else none
def xThen (f : List D → Option D) (m : En → Option Rs) : En → Option Rs := fun ρ => (m ρ).bind fun r => match r with
  | .ok d => (f [d]).map .ok
  | .ex c => some (.ex c)
def xFl (m : En → Option Fl) : En → Option FlX := fun ρ => (m ρ).map .fl
def xSeq (a b : En → Option FlX) : En → Option FlX := fun ρ => (a ρ).bind fun x => match x with
  | .fl (.nx ρ') => b ρ'
  | x => some x
def xIf (c : En → Option Bool) (a b : En → Option FlX) : En → Option FlX := fun ρ => (c ρ).bind fun x => if x = true then a ρ else b ρ
def xRet (m : En → Option Rs) : En → Option FlX := fun ρ => (m ρ).bind fun r => match r with
  | .ok d => some (.fl (.rt d))
  | .ex c => some (.ex c ρ)
def xDrop (m : En → Option Rs) : En → Option FlX := fun ρ => (m ρ).bind fun r => match r with
  | .ok _ => some (.fl (.nx ρ))
  | .ex c => some (.ex c ρ)
def xSet (i : Nat) (m : En → Option Rs) : En → Option FlX := fun ρ => (m ρ).bind fun r => match r with
  | .ok d => some (.fl (.nx (ρ.set i (some (.val d)))))
  | .ex c => some (.ex c ρ)
def xRaise (c : Nat) : En → Option FlX := fun ρ => some (.ex c ρ)
def xDef (N : Nat) (b : En → Option FlX) (ds : List D) : Option Rs := (b (start0 N ds)).bind fun x => match x with
  | .fl (.rt d) => some (.ok d)
  | .fl (.nx _) => some (.ok .none)
  | .ex c _ => some (.ex c)
  | _ => none
section
variable {K : PySem.W.Frag} {cl : Nat → Addr}
theorem passNo {X : Cx} (σ : L2.St) : PassesAt (L2.CX X.prog X.w) X σ (fun _ _ _ => False) := fun _ _ _ _ _ _ c => by
  obtain ⟨_, _, _, _, _, _, _, _, _, _, _, _, z⟩ := c
  exact z.elim
theorem ev_callX {n : Nat} {mf : List D → Option Rs} {t : TA} {m : En → Option (List D)} {E : L2.St → XK} (ha : TAm K t m) : ET K (tCallS (spX K cl n mf) E t) (mCall (limX n mf) m) := by
  refine ⟨fun {H0 T0 σ ρ H T d} G h Q q => ?_⟩
  obtain ⟨x, hx, h⟩ := bind_some h
  refine ha.run G hx _ fun vs H1 s1 d1 p1 => ?_
  unfold limX at h
  split at h
  · rename_i hn
    obtain ⟨r, hr, h⟩ := bind_some h
    cases r with
    | ok d' =>
      cases h
      exact ⟨x, .ok d, H1, T, p1, hn, hr, rfl, d1, fun v H' s2 d2 p2 => q v H' (s1.trans s2) d2 p2⟩
    | ex c => cases h
  · cases h
theorem ex_lift {te : TE} {m : En → Option D} (h : ET K te m) : EX K cl (fun _ => te) (xLift m) := by
  refine ⟨fun {H0 T0 σ ρ H T r} G hm W Q q => ?_⟩
  obtain ⟨d, hd, e⟩ := map_some hm
  subst e
  exact h.run G hd Q q
theorem ex_call {n : Nat} {mf : List D → Option Rs} {t : TA} {m : En → Option (List D)} (ha : TAm K t m) : EX K cl (fun W => tCallS (spX K cl n mf) (WE W) t) (xCall n mf m) := by
  refine ⟨fun {H0 T0 σ ρ H T r} G h W Q q => ?_⟩
  obtain ⟨x, hx, h⟩ := bind_some h
  refine ha.run G hx _ fun vs H1 s1 d1 p1 => ?_
  split at h
  · rename_i hn
    refine ⟨x, r, H1, T, p1, hn, h, rfl, d1, ?_⟩
    cases r with
    | ok d => exact fun v H' s2 d2 p2 => q v H' (s1.trans s2) d2 p2
    | ex c => exact fun H' s2 d2 => q H' (s1.trans s2) d2
  · cases h
theorem ex_then {te : WX → TE} {m : En → Option Rs} {mf : List D → Option D} {E : XK} (h : EX K cl te m) : EX K cl (fun W => tCall (spM K 1 mf) [] E (tCons (te W) tNil)) (xThen (lim 1 mf) m) := by
  refine ⟨fun {H0 T0 σ ρ H T r} G hm W Q q => ?_⟩
  obtain ⟨r1, h1, hm⟩ := bind_some hm
  cases r1 with
  | ok d =>
    obtain ⟨d2, h2, e⟩ := map_some hm
    subst e
    refine h.run G h1 W _ fun v H1 s1 d1 p1 => ?_
    show spM K 1 mf ([v] ++ []) (ov H1 T) Q E
    exact ⟨[d], d2, H1, T, .cons p1 .nil, rfl, h2, rfl, d1, fun w H3 s3 d3 p3 => q w H3 (s1.trans s3) d3 p3⟩
  | ex c =>
    cases hm
    exact h.run G h1 W _ q
theorem sx_lift {t : TS} {m : En → Option Fl} (h : TSm K t m) : SX K cl (fun _ => t) (xFl m) := by
  refine ⟨fun {H0 T0 σ ρ H T x} G hm W E q => ?_⟩
  obtain ⟨f, hf, e⟩ := map_some hm
  subst e
  exact h.run G hf E q
theorem sx_seq {t u : WX → TS} {m1 m2 : En → Option FlX} (h1 : SX K cl t m1) (h2 : SX K cl u m2) : SX K cl (fun W => tSeq (t W) (u W)) (xSeq m1 m2) := by
  refine ⟨fun {H0 T0 σ ρ H T x} G h W E q => ?_⟩
  obtain ⟨y, hy, h⟩ := bind_some h
  refine h1.run G hy W _ ?_
  cases y with
  | fl f =>
    cases f with
    | nx ρ' => exact fun σ' H' T' G' => h2.run G' h W E q
    | rt d => cases h; exact q
    | bk ρ' => cases h; exact q
    | ct ρ' => cases h; exact q
  | ex c ρ' => cases h; exact q
theorem sx_if {tc : TT} {mc : En → Option Bool} {t u : WX → TS} {m1 m2 : En → Option FlX} (hc : TTm K tc mc) (h1 : SX K cl t m1) (h2 : SX K cl u m2) : SX K cl (fun W => tIfS tc (t W) (u W)) (xIf mc m1 m2) := by
  refine ⟨fun {H0 T0 σ ρ H T f} G h W E q => ?_⟩
  obtain ⟨x, hx, h⟩ := bind_some h
  refine hc.run G hx _ fun H1 s1 d1 => ?_
  cases x with
  | true =>
    rw [if_pos rfl] at h ⊢
    exact h1.run (G.mono s1 d1) h W E q
  | false =>
    rw [if_neg Bool.false_ne_true] at h ⊢
    exact h2.run (G.mono s1 d1) h W E q
theorem sx_ret {te : WX → TE} {m : En → Option Rs} (h : EX K cl te m) : SX K cl (fun W => tRet (te W)) (xRet m) := by
  refine ⟨fun {H0 T0 σ ρ H T x} G hm W E q => ?_⟩
  obtain ⟨r, hr, hm⟩ := bind_some hm
  refine h.run G hr W _ ?_
  cases r with
  | ok d => cases hm; exact fun v H1 s1 d1 p1 => q v H1 T (G.ex.trans s1) d1 G.ext p1
  | ex c => cases hm; exact fun H1 s1 d1 => q σ H1 T (G.mono s1 d1)
theorem sx_drop {te : WX → TE} {m : En → Option Rs} (h : EX K cl te m) : SX K cl (fun W => tDrop (te W)) (xDrop m) := by
  refine ⟨fun {H0 T0 σ ρ H T x} G hm W E q => ?_⟩
  obtain ⟨r, hr, hm⟩ := bind_some hm
  refine h.run G hr W _ ?_
  cases r with
  | ok d => cases hm; exact fun v H1 s1 d1 p1 => q σ H1 T (G.mono s1 d1)
  | ex c => cases hm; exact fun H1 s1 d1 => q σ H1 T (G.mono s1 d1)
theorem sx_set {te : WX → TE} {m : En → Option Rs} (i : Nat) (h : EX K cl te m) : SX K cl (fun W => tAsg (te W) (gName i)) (xSet i m) := by
  refine ⟨fun {H0 T0 σ ρ H T x} G hm W E q => ?_⟩
  obtain ⟨r, hr, hm⟩ := bind_some hm
  refine h.run G hr W _ ?_
  cases r with
  | ok d => cases hm; exact fun v H1 s1 d1 p1 => q _ H1 T ((G.mono s1 d1).set p1)
  | ex c => cases hm; exact fun H1 s1 d1 => q σ H1 T (G.mono s1 d1)
theorem sx_raise (c : Nat) : SX K cl (fun W _ σ H => W (.ref (cl c)) none σ H) (xRaise c) := by
  refine ⟨fun {H0 T0 σ ρ H T x} G hm W E q => ?_⟩
  cases hm
  exact q σ H T G
/-- a def that may raise -/
theorem def_okX {P : Program} {w : World} {mg : Str → Option Value} {base : Heap} {x qual : Str} {st : Stmt} {f : Addr} {fd : FuncData} {N ps : List Str} {k : Nat} {mb : En → Option FlX} (F : Fun K x qual st f fd) (S : FnScope N ps (defScope st))
    (hbody : ∀ (cdv : Value) (A : Around) (outer : List Env) (s : Shared) (H : Hp) (E : XK), Room k (A.deeper (envOfC qual (defScope st) s.heap.objs.size f cdv)) →
      ∃ t : WX → TS, PSs (cxOf (L2.CX P w) P w K mg base N qual (defScope st) f cdv A outer s H E) (defBody st) (t fun c d _ h => E c d h) ∧ SX K cl t mb) : FnOk P w K mg base (L2.CX P w) (k + 1) f fd ps (spX K cl ps.length (xDef N.length mb)) := by
  refine F.okX S (fun vs H Q E h => ?_) (fun cdv A outer s Hx vs Q E hr h => ?_)
  · obtain ⟨ds, r, H, T, g, hn, _⟩ := h
    rw [dpa_len g, hn]
  · obtain ⟨ds, r, H, T, g, hn, hm, rfl, dis, q⟩ := h
    obtain ⟨t, p, m⟩ := hbody cdv A outer s (ov H T) E hr
    refine ⟨_, p, ?_⟩
    obtain ⟨y, hy, hm⟩ := bind_some hm
    refine m.run (good_start g dis) hy _ _ ?_
    cases y with
    | fl fl =>
      cases fl with
      | rt d' =>
        cases hm
        intro v H' T' s1 d1 e1 p1
        obtain ⟨H2, e2, s2, d2, s3⟩ := back dis s1 d1 e1
        show Q v (ov H' T')
        rw [e2]
        exact q v H2 s2 d2 (dp_mono s3 p1)
      | nx ρ =>
        cases hm
        intro σ' H' T' G'
        obtain ⟨H2, e2, s2, d2, s3⟩ := back dis G'.ex G'.dis G'.ext
        show Q .non (ov H' T')
        rw [e2]
        exact q _ H2 s2 d2 .non
      | bk ρ => cases hm
      | ct ρ => cases hm
    | ex c ρ =>
      cases hm
      intro σ' H' T' G'
      obtain ⟨H2, e2, s2, d2, s3⟩ := back dis G'.ex G'.dis G'.ext
      show E (.ref (cl c)) none (ov H' T')
      rw [e2]
      exact q H2 s2 d2
/-! caught -/
/-- the suite, for exceptions of one class -/
theorem pss_cls {X : Cx} {C : Addr} {oe : Obj} {cls : Value} {d : Option Addr} {b : List Stmt} {t : TS} (hz : Zc cls d oe) (h : Zc (.ref C) none oe → PSs X b t) : PSs X b (fun D σ H => (cls = .ref C ∧ d = none) ∧ t D σ H) :=
  ⟨fun pins s σ H D I q => by
    obtain ⟨⟨rfl, rfl⟩, q⟩ := q
    exact (h hz).run pins s σ H D I q⟩
/-- what an expression of a suite comes to, the exception at a in slot i -/
structure SB (i : Nat) (te : Addr → TE) (v : V) : Prop where
  run : ∀ (a : Addr) (σ : L2.St) (H : Hp) (Q : VK), σ[i]? = some (some (.ref a)) → Q v H → te a σ H Q
structure SBT (i : Nat) (tt : Addr → TT) (b : Bool) : Prop where
  run : ∀ (a : Addr) (σ : L2.St) (H : Hp) (Q : Bool → Hp → Prop), σ[i]? = some (some (.ref a)) → Q b H → tt a σ H Q
theorem sb_is {i : Nat} {D Y : Addr} {b : Bool} (k : PySem.W.kitOne K (.ref D) (.ref Y) = some b) : SB i (fun a => tCB (rIsE K D a) (tCons (tVar i) (tCons (tC (.ref Y)) tNil))) (.bl b) :=
  ⟨fun a σ H Q h q => ⟨.ref a, h, .ref Y, .ref Y, b, rfl, fun _ r => r, k, q⟩⟩
theorem sb_and {i : Nat} {ta tb : Addr → TE} {b c : Bool} (h1 : SB i ta (.bl b)) (h2 : SB i tb (.bl c)) : SB i (fun a => tAndV (ta a) (tb a)) (.bl (b && c)) :=
  ⟨fun a σ H Q h q => h1.run a σ H _ h ⟨b, rfl, by
    cases b with
    | true => rw [if_pos rfl]; exact h2.run a σ H Q h q
    | false => rw [if_neg Bool.false_ne_true]; exact q⟩⟩
theorem sb_not {i : Nat} {ta : Addr → TE} {b : Bool} (h1 : SB i ta (.bl b)) : SB i (fun a => tNotV (ta a)) (.bl (!b)) := ⟨fun a σ H Q h q => h1.run a σ H _ h ⟨b, rfl, q⟩⟩
theorem sb_c {i : Nat} {v : V} : SB i (fun _ => tC v) v := ⟨fun a σ H Q h q => q⟩
theorem sbt_tru {i : Nat} {ta : Addr → TE} {b : Bool} (h1 : SB i ta (.bl b)) : SBT i (fun a => tTru K (ta a)) b := ⟨fun a σ H Q h q => h1.run a σ H _ h ⟨b, rfl, q⟩⟩
theorem sb_if {i : Nat} {tt : Addr → TT} {ta tb : Addr → TE} {b : Bool} {v w : V} (h : SBT i tt b) (h1 : SB i ta v) (h2 : SB i tb w) : SB i (fun a => tIf (tt a) (ta a) (tb a)) (if b = true then v else w) :=
  ⟨fun a σ H Q e q => h.run a σ H _ e (by
    cases b with
    | true => rw [if_pos rfl] at q ⊢; exact h1.run a σ H Q e q
    | false => rw [if_neg Bool.false_ne_true] at q ⊢; exact h2.run a σ H Q e q)⟩
def sTry (i : Nat) (c0 : Nat) (d0 : D) (b : En → Option FlX) : En → Option Fl := fun ρ => (b ρ).bind fun x => match x with
  | .fl f => some f
  | .ex c ρ' => if c = c0 ∧ i < ρ'.length then some (.rt d0) else none
/-- try: .. except c as e: return .. -/
theorem st_try {i : Nat} {c0 : Nat} {C : Addr} {d0 : D} {v0 : V} {tb : WX → TS} {te : Addr → TE} {mb : En → Option FlX} (hb : SX K cl tb mb) (hx : PySem.W.exmOne K (.ref (cl c0)) (.ref C) = some true) (hs : SB i te v0) (hd : ∀ H, Dp K H v0 d0) :
    TSm K (fun D σ H => tb (wAs K (.ref C) i (fun a cls d D σ H => (cls = .ref (cl c0) ∧ d = none) ∧ tRet (te a) D σ H) (fun _ _ _ _ => False) D) D σ H) (sTry i c0 d0 mb) := by
  refine ⟨fun {H0 T0 σ ρ H T f} G h E q => ?_⟩
  obtain ⟨x, hx1, h⟩ := bind_some h
  refine hb.run G hx1 _ E ?_
  cases x with
  | fl f' => cases h; exact q
  | ex c ρ' =>
    by_cases hc : c = c0 ∧ i < ρ'.length
    · have h' : some (Fl.rt d0) = some f := by
        have : (if c = c0 ∧ i < ρ'.length then some (Fl.rt d0) else none) = some f := h
        rwa [if_pos hc] at this
      cases h'
      obtain ⟨rfl, hi⟩ := hc
      intro σ' H' T' G'
      refine ⟨true, hx, fun _ a na => ⟨⟨rfl, rfl⟩, ?_⟩, fun z => (nomatch z)⟩
      exact hs.run a _ _ _ (set_self (by rw [← G'.len]; exact hi)) (q v0 H' T' G'.ex G'.dis G'.ext (hd _))
    · have : (if c = c0 ∧ i < ρ'.length then some (Fl.rt d0) else none) = some f := h
      rw [if_neg hc] at this
      cases this
/-! item = value, str, join, split -/
theorem dpa_set {H : Hp} : ∀ {xs : List V} {ds : List D} {v : V} {d : D} (j : Nat), DpAll K H xs ds → Dp K H v d → DpAll K H (xs.set j v) (ds.set j d)
  | _, _, _, _, _, .nil, _ => .nil
  | _, _, _, _, 0, .cons _ t, g => .cons g t
  | _, _, _, _, j + 1, .cons h t, g => .cons h (dpa_set j t g)
def sItem (i : Nat) (mk ma : En → Option D) : En → Option Fl := fun ρ => match ρ[i]? with
  | some (some (.own ds)) => (ma ρ).bind fun d => (mk ρ).bind fun k => match k with
    | .int k => (ixN ds.length k).map fun j => .nx (ρ.set i (some (.own (ds.set j d))))
    | _ => none
  | _ => none
theorem st_item {i : Nat} {te tk : TE} {mk ma : En → Option D} (ha : ET K te ma) (hk : ET K tk mk) : TSm K (tAsg te (gSub (tVar i) tk rSetL)) (sItem i mk ma) := by
  refine ⟨fun {H0 T0 σ ρ H T f} G h E q => ?_⟩
  unfold sItem at h
  split at h
  · rename_i ds e
    obtain ⟨d, hd, h⟩ := bind_some h
    obtain ⟨kd, hkd, h⟩ := bind_some h
    split at h
    · rename_i k
      obtain ⟨j, hj, h⟩ := map_some h
      subst h
      refine ha.run G hd _ fun v H1 s1 d1 p1 => ?_
      have G1 := G.mono s1 d1
      obtain ⟨p, xs, a, b, c, g⟩ := G1.own i ds e
      refine ⟨.ref p, a, ?_⟩
      refine hk.run G1 hkd _ fun u H2 s2 d2 p2 => ?_
      have G2 := G1.mono s2 d2
      obtain ⟨p', xs', a', b', c', g'⟩ := G2.own i ds e
      rw [a] at a'
      cases a'
      rw [b] at b'
      cases b'
      cases p2
      refine ⟨p, xs, k, j, rfl, rfl, ov_own b, by rw [dpa_len g']; exact hj, ?_⟩
      rw [upd_put]
      exact q _ _ _ (G2.turn e a b (dpa_set j g' (dp_mono s2 p1)))
    · cases h
  · cases h
def rStrA : List V → Hp → VK → Prop := fun xs H Q => (∃ i, xs = [V.int i] ∧ i.natAbs.log2 < 1920 ∧ Q (.str (toString i)) H) ∨ ∃ a, xs = [V.str a] ∧ Q (.str a) H
theorem cr_strA {X : Cx} : CallR X (.type "str") rStrA := by
  intro pins s σ H xs us Q I r h
  rcases h with h | h
  · exact call_str_int pins s σ H xs us Q I r h
  · exact SkE.call_str_str pins s σ H xs us Q I r h
def strI (i : Int) : Str := toString i
def dStrA : List D → Option D
  | [.int i] => if i.natAbs.log2 < 1920 then some (.str (strI i)) else none
  | [.str a] => some (.str a)
  | _ => none
theorem cd_strA : CD K rStrA dStrA := by
  refine ⟨fun {H T vs ds d} dis h e Q q => ?_⟩
  unfold dStrA at e
  split at e
  · split at e
    · rename_i hz
      cases e
      obtain ⟨v, rfl, g⟩ := dpa_one h
      cases g
      exact .inl ⟨_, rfl, hz, q _ H (Same.refl H) dis (.str _)⟩
    · cases e
  · cases e
    obtain ⟨v, rfl, g⟩ := dpa_one h
    cases dp_str g
    exact .inr ⟨_, rfl, q _ H (Same.refl H) dis (.str _)⟩
  · cases e
abbrev rJoinD (K : PySem.W.Frag) : V → List V → Hp → VK → Prop := fun x xs H Q => ∃ a p, ∃ ys : List Str, x = .str a ∧ xs = [.ref p] ∧ (SqL K H p (ys.map V.str) ∨ SqT K H p (ys.map V.str)) ∧ (ys.map (·.length)).sum + ys.length * a.length ≤ 16777216 ∧ Q (.str (Txt.join a ys)) H
def dJoin : D → D → Option D
  | .str a, .list ds => (strsD ds).bind fun ns => if (ns.map (·.length)).sum + ns.length * a.length ≤ 16777216 then some (.str (Txt.join a ns)) else none
  | .str a, .tuple ds => (strsD ds).bind fun ns => if (ns.map (·.length)).sum + ns.length * a.length ≤ 16777216 then some (.str (Txt.join a ns)) else none
  | _, _ => none
theorem ev_join {to ta : TE} {mo ma : En → Option D} (ho : ET K to mo) (ha : ET K ta ma) : ET K (tBM K "str" (rJoinD K) to (tCons ta tNil)) (mOp dJoin mo ma) := by
  refine ⟨fun {H0 T0 σ ρ H T d} G h Q q => ?_⟩
  obtain ⟨x, hx, h⟩ := bind_some h
  obtain ⟨y, hy, h⟩ := bind_some h
  refine ho.run G hx _ fun v H1 s1 d1 p1 => ?_
  unfold dJoin at h
  split at h
  · rename_i a ds
    obtain ⟨ns, e, h⟩ := bind_some h
    split at h
    · rename_i hz
      cases h
      cases strs_some e
      cases dp_str p1
      refine ⟨rfl, ?_⟩
      refine ha.run (G.mono s1 d1) hy _ fun u H2 s2 d2 p2 => ?_
      obtain ⟨p, us, rfl, hs, gu⟩ := dp_lst p2
      cases dpa_strs_v gu
      exact ⟨_, p, ns, rfl, rfl, .inl (sql_ov d2 hs), hz, q _ H2 (s1.trans s2) d2 (.str _)⟩
    · cases h
  · rename_i a ds
    obtain ⟨ns, e, h⟩ := bind_some h
    split at h
    · rename_i hz
      cases h
      cases strs_some e
      cases dp_str p1
      refine ⟨rfl, ?_⟩
      refine ha.run (G.mono s1 d1) hy _ fun u H2 s2 d2 p2 => ?_
      obtain ⟨p, us, rfl, hs, gu⟩ := dp_tup p2
      cases dpa_strs_v gu
      exact ⟨_, p, ns, rfl, rfl, .inr (sqt_ov d2 hs), hz, q _ H2 (s1.trans s2) d2 (.str _)⟩
    · cases h
  · cases h
end
end DD
namespace DD
open PySem PySem.Spec PyProof.Rows L2
theorem kit_of {K : PySem.W.Frag} {D C : Addr} {b : Bool} (hc : PySem.W.isClsIn K C = true) (ht : PySem.W.typeIn K (.ref C) = some (.type "type")) (hs : PySem.W.subIn K (.ref D) (.ref C) = some b) (hself : PySem.W.subIn K (.ref C) (.ref C) = some true) : PySem.W.kitOne K (.ref D) (.ref C) = some b := by
  unfold PySem.W.kitOne
  split
  · rename_i h
    have e : Value.ref D = Value.ref C := by simpa using h
    cases e
    rw [hself] at hs
    exact hs
  · have hc' : (PySem.W.clsIn K C).isSome = true := hc
    show (if ((PySem.W.clsIn K C).isSome && PySem.W.typeIn K (.ref C) == some (.type "type")) = true then PySem.W.subIn K (.ref D) (.ref C) else none) = some b
    rw [hc', ht]
    exact hs
end DD
namespace DD
open PySem PySem.Spec PyProof.Rows L2
theorem pg_or {X : Cx} {e : Expr} {t u : TG} (h1 : PG X e t) (h2 : PG X e u) : PG X e (fun v σ H Q => t v σ H Q ∨ u v σ H Q) := by
  refine ⟨fun pins s σ H v x Q I r h => ?_⟩
  rcases h with h | h
  · exact h1.run pins s σ H v x Q I r h
  · exact h2.run pins s σ H v x Q I r h
def gAnyM (n : Nat) (g : List D → En → Option En) (d : D) (ρ : En) : Option En := match d with
  | .tuple ds => if ds.length = n then g ds ρ else none
  | .list ds => if ds.length = n then g ds ρ else none
  | _ => none
theorem tg_any {K : PySem.W.Frag} {vs : List Nat} {n : Nat} {gs : TGs} {mr : List D → En → Option En} (h : TGsm K vs gs mr) : TGm K vs (fun v σ H Q => gTup K n gs v σ H Q ∨ gLst K n gs v σ H Q) (gAnyM n mr) := by
  refine ⟨fun {H0 T0 σ ρ ρ2 H T v d} G g e Q q => ?_⟩
  unfold gAnyM at e
  split at e
  · split at e
    · rename_i hn
      obtain ⟨p, xs, rfl, hs, ga⟩ := dp_tup g
      exact .inl ⟨p, xs, rfl, sqt_ov G.dis hs, by rw [dpa_len ga]; exact hn, h.run G ga e Q q⟩
    · cases e
  · split at e
    · rename_i hn
      obtain ⟨p, xs, rfl, hs, ga⟩ := dp_lst g
      exact .inr ⟨p, xs, rfl, sql_ov G.dis hs, by rw [dpa_len ga]; exact hn, h.run G ga e Q q⟩
    · cases e
  · cases e
end DD

set_option Elab.async false
set_option linter.all false
set_option maxRecDepth 100000
set_option maxHeartbeats 4000000
/-! a text split at another -/
namespace DD
open PySem PySem.Spec PyProof.Rows L2
section
variable {K : PySem.W.Frag}
abbrev rSplitD : V → List V → Hp → VK → Prop := fun x xs H Q => ∃ a b, x = .str a ∧ xs = [.str b] ∧ (b.length == 0) = false ∧ a.length + 2 ≤ sizeLine ∧ rNewStrs (Txt.split a b) H Q
def dSplit : D → D → Option D
  | .str a, .str b => if (b.length == 0) = false ∧ a.length + 2 ≤ 16777216 then some (.list ((Txt.split a b).map PyData.str)) else none
  | _, _ => none
theorem ev_split {to ta : TE} {mo ma : En → Option D} (ho : ET K to mo) (ha : ET K ta ma) : ET K (tBM K "str" rSplitD to (tCons ta tNil)) (mOp dSplit mo ma) := by
  refine ⟨fun {H0 T0 σ ρ H T d} G h Q q => ?_⟩
  obtain ⟨x, hx, h⟩ := bind_some h
  obtain ⟨y, hy, h⟩ := bind_some h
  refine ho.run G hx _ fun v H1 s1 d1 p1 => ?_
  unfold dSplit at h
  split at h
  · rename_i a b _
    split at h
    · rename_i hz
      cases h
      cases dp_str p1
      refine ⟨rfl, ?_⟩
      refine ha.run (G.mono s1 d1) hy _ fun u H2 s2 d2 p2 => ?_
      cases dp_str p2
      refine ⟨_, _, rfl, rfl, hz.1, by rw [sizeLine_eq]; exact hz.2, fun p nr => ?_⟩
      obtain ⟨nT, nH⟩ := ov_free nr
      rw [upd_ov nT]
      have s4 : Same H2 (upd H2 p (.lst ((Txt.split a b).map V.str))) := same_new nH
      exact q _ _ ((s1.trans s2).trans s4) (dis_upd d2 nT) (.lst (SqL.of upd_same) (dpa_mono s4 (dpa_strs _)))
    · cases h
  · cases h
end
end DD

set_option Elab.async false
set_option linter.all false
set_option maxRecDepth 100000
set_option maxHeartbeats 4000000
/-! reckoning with mirrors -/
namespace DD
open PySem PySem.Spec PyProof.Rows L2
section
variable {ρ ρ' : En} {a b : En → Option Fl} {f : Fl} {d e : D}
theorem seq_nx (h : a ρ = some (.nx ρ')) : sSeq a b ρ = b ρ' := by unfold sSeq; rw [h]; rfl
theorem seq_rt (h : a ρ = some (.rt d)) : sSeq a b ρ = some (.rt d) := by unfold sSeq; rw [h]; rfl
theorem if_t {c : En → Option Bool} (h : c ρ = some true) : sIf c a b ρ = a ρ := by unfold sIf; rw [h]; rfl
theorem if_f {c : En → Option Bool} (h : c ρ = some false) : sIf c a b ρ = b ρ := by unfold sIf; rw [h]; rfl
theorem asg_set {m : En → Option D} {i : Nat} (h : m ρ = some d) : sAsg m (gSet i) ρ = some (.nx (ρ.set i (some (.val d)))) := by unfold sAsg; rw [h]; rfl
theorem par_set {m n : En → Option D} {i j : Nat} (h : m ρ = some d) (k : n ρ = some e) : sPar i j m n ρ = some (.nx ((ρ.set i (some (.val d))).set j (some (.val e)))) := by unfold sPar; rw [h, k]; rfl
theorem ret_of {m : En → Option D} (h : m ρ = some d) : sRet m ρ = some (.rt d) := by unfold sRet; rw [h]; rfl
theorem op_of {g : D → D → Option D} {m n : En → Option D} {x y : D} (h : m ρ = some x) (k : n ρ = some y) : mOp g m n ρ = g x y := by unfold mOp; rw [h, k]; rfl
theorem un_of {g : D → Option D} {m : En → Option D} {x : D} (h : m ρ = some x) : mUn g m ρ = g x := by unfold mUn; rw [h]; rfl
theorem call_of {g : List D → Option D} {m : En → Option (List D)} {x : List D} (h : m ρ = some x) : mCall g m ρ = g x := by unfold mCall; rw [h]; rfl
theorem cons_of {m : En → Option D} {n : En → Option (List D)} {x : D} {y : List D} (h : m ρ = some x) (k : n ρ = some y) : mCons m n ρ = some (x :: y) := by unfold mCons; rw [h, k]; rfl
theorem nil_of : mNil ρ = some [] := rfl
theorem test_of {m : En → Option D} {c : Bool} (h : m ρ = some (.bool c)) : mTest m ρ = some c := by unfold mTest; rw [h]; rfl
theorem tru_of {m : En → Option D} {x : D} (h : m ρ = some x) : mTru m ρ = tru x := by unfold mTru; rw [h]; rfl
theorem tup_of {m : En → Option (List D)} {x : List D} (h : m ρ = some x) (k : x.length ≤ cap) : mTup m ρ = some (.tuple x) := by unfold mTup; rw [h]; simp [sized, k]
theorem lst_of {m : En → Option (List D)} {x : List D} (h : m ρ = some x) (k : x.length ≤ cap) : mLst m ρ = some x := by unfold mLst; rw [h]; simp [sized, k]
theorem list_of {m : En → Option (List D)} {x : List D} (h : m ρ = some x) : mList m ρ = some (.list x) := by unfold mList; rw [h]; rfl
theorem lim_of {n : Nat} {m : List D → Option D} {x : List D} (h : x.length = n) : lim n m x = m x := by unfold lim; rw [if_pos h]
theorem lim1 {m : List D → Option D} {x : D} : lim 1 m [x] = m [x] := rfl
theorem lim2 {m : List D → Option D} {x y : D} : lim 2 m [x, y] = m [x, y] := rfl
theorem lim3 {m : List D → Option D} {x y z : D} : lim 3 m [x, y, z] = m [x, y, z] := rfl
theorem or_t {m n : En → Option Bool} (h : m ρ = some true) : mOr m n ρ = some true := by unfold mOr; rw [h]; rfl
theorem or_f {m n : En → Option Bool} (h : m ρ = some false) : mOr m n ρ = n ρ := by unfold mOr; rw [h]; rfl
theorem and_t {m n : En → Option Bool} (h : m ρ = some true) : mAnd m n ρ = n ρ := by unfold mAnd; rw [h]; rfl
theorem and_f {m n : En → Option Bool} (h : m ρ = some false) : mAnd m n ρ = some false := by unfold mAnd; rw [h]; rfl
theorem not_of {m : En → Option Bool} {c : Bool} (h : m ρ = some c) : mNot m ρ = some (!c) := by unfold mNot; rw [h]; rfl
theorem andV_t {m n : En → Option D} (h : m ρ = some (.bool true)) : mAndV m n ρ = n ρ := by unfold mAndV; rw [h]; rfl
theorem andV_f {m n : En → Option D} (h : m ρ = some (.bool false)) : mAndV m n ρ = some (.bool false) := by unfold mAndV; rw [h]; rfl
theorem notV_of {m : En → Option D} {c : Bool} (h : m ρ = some (.bool c)) : mNotV m ρ = some (.bool (!c)) := by unfold mNotV; rw [h]; rfl
theorem ifE_t {c : En → Option Bool} {m n : En → Option D} (h : c ρ = some true) : mIfE c m n ρ = m ρ := by unfold mIfE; rw [h]; rfl
theorem ifE_f {c : En → Option Bool} {m n : En → Option D} (h : c ρ = some false) : mIfE c m n ρ = n ρ := by unfold mIfE; rw [h]; rfl
theorem mDef_rt {N : Nat} {ds : List D} (h : a (start0 N ds) = some (.rt d)) : mDef N a ds = some d := by unfold mDef; rw [h]; rfl
theorem dEq_of (h : SeqAt.shaped d = true) (k : SeqAt.shaped e = true) : dEq d e = some (.bool (PyData.eqv d e)) := by unfold dEq; rw [h, k]; rfl
theorem dNe_of (h : SeqAt.shaped d = true) (k : SeqAt.shaped e = true) : dNe d e = some (.bool (!PyData.eqv d e)) := by unfold dNe; rw [h, k]; rfl
end

theorem dLen_list {ds : List D} (h : ds.length ≤ cap) : dLen [.list ds] = some (.int ds.length) := if_pos h
theorem dLen_tup {ds : List D} (h : ds.length ≤ cap) : dLen [.tuple ds] = some (.int ds.length) := if_pos h
theorem dLen_str {z : Str} (h : z.length ≤ cap) : dLen [.str z] = some (.int z.length) := if_pos h
theorem dMod_of {i j : Int} (h : 0 < j) : dMod (.int i) (.int j) = some (.int (i % j)) := if_pos h
theorem dFdiv_of {i j : Int} (h : 0 < j) (k : j.natAbs < 2 ^ 64) : dFdiv (.int i) (.int j) = some (.int (i / j)) := if_pos ⟨h, by
  have := PySem.Flt.log2_lt_of (show 0 < 64 by decide) k
  omega⟩
theorem dMul_r {i j : Int} (h : -(2 ^ 64) < j) (k : j < 2 ^ 64) : dMul (.int i) (.int j) = some (.int (i * j)) := by
  have : inW j = true := by unfold inW; rw [decide_eq_true h, decide_eq_true k]; rfl
  show (if (inW i || inW j) = true then _ else _) = _
  rw [this, Bool.or_true, if_pos rfl]
theorem whl_t {c : En → Option Bool} {b : En → Option Fl} {n : Nat} {ρ ρ2 : En} (h : c ρ = some true) (k : b ρ = some (.nx ρ2)) : whl c b (n + 1) ρ = whl c b n ρ2 := by
  have : whl c b (n + 1) ρ = (c ρ).bind fun x => if x = true then (b ρ).bind fun f => match f with
      | .nx ρ2 => whl c b n ρ2
      | .ct ρ2 => whl c b n ρ2
      | .bk ρ2 => some (.nx ρ2)
      | .rt d => some (.rt d)
    else some (.nx ρ) := rfl
  rw [this, h]
  show ((b ρ).bind fun f => _) = _
  rw [k]
  rfl
theorem whl_f {c : En → Option Bool} {b : En → Option Fl} {n : Nat} {ρ : En} (h : c ρ = some false) : whl c b (n + 1) ρ = some (.nx ρ) := by
  have : whl c b (n + 1) ρ = (c ρ).bind fun x => if x = true then (b ρ).bind fun f => match f with
      | .nx ρ2 => whl c b n ρ2
      | .ct ρ2 => whl c b n ρ2
      | .bk ρ2 => some (.nx ρ2)
      | .rt d => some (.rt d)
    else some (.nx ρ) := rfl
  rw [this, h]
  rfl

/-! ### comprehensions, loops -/
theorem coll_map {g : D → En → Option En} {e : En → Option D} {ρ : En} {f : D → D} : ∀ {ds : List D}, (∀ d ∈ ds, ∃ ρ1, g d ρ = some ρ1 ∧ e ρ1 = some (f d)) → coll g mYes e ρ ds = some (ds.map f)
  | [], _ => rfl
  | d :: ds, h => by
    obtain ⟨ρ1, h1, h2⟩ := h d List.mem_cons_self
    have ih := coll_map (g := g) (e := e) (ρ := ρ) (f := f) (ds := ds) fun x hx => h x (List.mem_cons_of_mem _ hx)
    have s1 : coll g mYes e ρ (d :: ds) = (g d ρ).bind fun ρ1 => (mYes ρ1).bind fun b => if b = true then (e ρ1).bind fun x => (coll g mYes e ρ ds).map fun r => x :: r else coll g mYes e ρ ds := rfl
    rw [s1, h1]
    show ((e ρ1).bind fun x => (coll g mYes e ρ ds).map fun r => x :: r) = _
    rw [h2, ih]
    rfl
theorem lc_of {it : En → Option (List D)} {g : D → En → Option En} {e : En → Option D} {ρ : En} {vs : List Nat} {ds : List D} {f : D → D} (hi : it ρ = some ds) (hz : ds.length ≤ cap) (h : ∀ d ∈ ds, ∃ ρ1, g d (wipeM ρ vs) = some ρ1 ∧ e ρ1 = some (f d)) :
    mLc it g mYes e vs ρ = some (ds.map f) := by
  unfold mLc
  rw [hi]
  show (if ds.length ≤ cap then _ else _) = _
  rw [if_pos hz]
  exact coll_map h
theorem bools_map (p : D → Bool) : ∀ ds : List D, bools (ds.map fun d => .bool (p d)) = some (ds.map p)
  | [] => rfl
  | d :: ds => by
    show (bools (ds.map fun d => .bool (p d))).map _ = _
    rw [bools_map p ds]
    rfl
theorem dAll_map (p : D → Bool) (ds : List D) : dAll [.list (ds.map fun d => .bool (p d))] = some (.bool (ds.all p)) := by
  show (bools (ds.map fun d => .bool (p d))).map (fun bs => PyData.bool (bs.all id)) = _
  rw [bools_map]
  show some (PyData.bool ((ds.map p).all id)) = _
  rw [List.all_map]
  rfl
theorem iter_tup {a : En → Option D} {ρ : En} {ds : List D} (h : a ρ = some (.tuple ds)) : mIter a ρ = some ds := by unfold mIter; rw [h]; rfl
theorem iter_lst {a : En → Option D} {ρ : En} {ds : List D} (h : a ρ = some (.list ds)) : mIter a ρ = some ds := by unfold mIter; rw [h]; rfl
theorem chain_of {g h : D → D → Option D} {a b c : En → Option D} {ρ : En} {x y z : D} {p q : Bool} (ha : a ρ = some x) (hb : b ρ = some y) (hc : c ρ = some z) (e1 : g x y = some (.bool p)) (e2 : h y z = some (.bool q)) : mChain g h a b c ρ = some (.bool (p && q)) := by
  unfold mChain
  rw [ha]
  show ((b ρ).bind fun y => _) = _
  rw [hb]
  show ((g x y).bind fun z => _) = _
  rw [e1]
  show (if p = true then (c ρ).bind fun w => h y w else some (.bool false)) = _
  cases p with
  | true => rw [if_pos rfl, hc]; show h y z = _; rw [e2]; rfl
  | false => rw [if_neg Bool.false_ne_true]; rfl

/-! ### a drawn number -/
def kIn (ρ : En) (i : Nat) (d : D) : Prop := ρ[i]? = some (some (.val d))
theorem var_of {ρ : En} {i : Nat} {d : D} (h : ρ[i]? = some (some (.val d))) : mVar i ρ = some d := by unfold mVar; rw [h]

def b_pick : En → Option Fl :=
  (sSeq (sAsg (mIfE (mTest (mOp dNe (mVar 0) (mList (mLst mNil)))) (mOp dIx (mVar 0) (mOp dMod (mVar 1) (mCall dLen (mCons (mVar 0) mNil)))) (mC (.int 0))) (gSet 3))
  (sSeq (sPar 4 5 (mOp dFdiv (mVar 3) (mOp dPow (mC (.int 10)) (mC (.int 18)))) (mOp dFdiv (mVar 1) (mCall dMax2 (mCons (mCall dLen (mCons (mVar 0) mNil)) (mCons (mC (.int 1)) mNil)))))
  (sSeq (sWhile (fun ρ => fuelOf 5 ρ) (mAnd (mTest (mOp dGt (mVar 4) (mC (.int 0)))) (mTest (mOp dGt (mVar 5) (mC (.int 0)))))
  (sPar 4 5 (mOp dFdiv (mVar 4) (mC (.int 840))) (mOp dSub (mVar 5) (mC (.int 1)))))
  (sSeq (sIf (mTest (mOp dGt (mVar 4) (mC (.int 0))))
  (sRet (mOp dMod (mOp dMod (mVar 4) (mC (.int 840))) (mVar 2)))
  sNext)
  (sSeq (sAsg (mOp dMod (mOp dMul (mOp dAdd (mOp dMul (mVar 3) (mC (.int 31))) (mOp dMul (mC (.int 6151)) (mOp dAdd (mVar 1) (mC (.int 1))))) (mC (.int 40692))) (mC (.int 2147483399))) (gSet 6))
  (sRet (mOp dMod (mOp dMod (mOp dAdd (mOp dMul (mVar 6) (mVar 6)) (mOp dFdiv (mVar 6) (mC (.int 31)))) (mC (.int 2147483629))) (mVar 2))))))))
def m_pick (ds : List D) : Option D := mDef 7 b_pick ds

theorem shaped_ints (ns : List Int) : SeqAt.shaped (.list (ns.map PyData.int)) = true := by
  have h1 : ∀ ns : List Int, PyData.canLayAll0 (ns.map PyData.int) = true := by
    intro ns
    induction ns with
    | nil => simp [PyData.canLayAll0]
    | cons n r ih => simp [PyData.canLayAll0, PyData.canLay0, ih]
  have h2 : ∀ ns : List Int, PyData.depthAll (ns.map PyData.int) = 0 := by
    intro ns
    induction ns with
    | nil => simp [PyData.depthAll]
    | cons n r ih => simp [PyData.depthAll, PyData.depth, ih]
  unfold SeqAt.shaped
  simp [PyData.canLay0, PyData.depth, h1, h2]
theorem shaped_nil : SeqAt.shaped (.list []) = true := shaped_ints []
theorem eqv_nil (ns : List Int) : PyData.eqv (.list (ns.map PyData.int)) (.list []) = ns.isEmpty := by
  cases ns <;> simp [PyData.eqv, PyData.eqvAll]
/-- the loop of a drawn number: rest and turn stay ints -/
theorem pick_loop : ∀ (n : Nat) (x : Int) (ρ : En) (sc k many c : D) (r t : Int) (g : Option Sl), 0 ≤ t → t.toNat + 1 = n →
    ∃ r' t' : Int, whl (mAnd (mTest (mOp dGt (mVar 4) (mC (.int 0)))) (mTest (mOp dGt (mVar 5) (mC (.int 0))))) (sPar 4 5 (mOp dFdiv (mVar 4) (mC (.int 840))) (mOp dSub (mVar 5) (mC (.int 1)))) n
      [some (.val sc), some (.val k), some (.val many), some (.val c), some (.val (.int r)), some (.val (.int t)), g] = some (.nx [some (.val sc), some (.val k), some (.val many), some (.val c), some (.val (.int r')), some (.val (.int t')), g])
  | 0, _, _, _, _, _, _, _, _, _, h, e => by omega
  | n + 1, x, ρ, sc, k, many, c, r, t, g, h, e => by
    have hc : mAnd (mTest (mOp dGt (mVar 4) (mC (.int 0)))) (mTest (mOp dGt (mVar 5) (mC (.int 0)))) [some (.val sc), some (.val k), some (.val many), some (.val c), some (.val (.int r)), some (.val (.int t)), g] = some (decide (0 < r) && decide (0 < t)) := by
      have a1 : mTest (mOp dGt (mVar 4) (mC (.int 0))) [some (.val sc), some (.val k), some (.val many), some (.val c), some (.val (.int r)), some (.val (.int t)), g] = some (decide (0 < r)) := rfl
      have a2 : mTest (mOp dGt (mVar 5) (mC (.int 0))) [some (.val sc), some (.val k), some (.val many), some (.val c), some (.val (.int r)), some (.val (.int t)), g] = some (decide (0 < t)) := rfl
      cases hq : decide (0 < r) with
      | true => rw [hq] at a1; rw [and_t a1, a2, Bool.true_and]
      | false => rw [hq] at a1; rw [and_f a1, Bool.false_and]
    cases hq : (decide (0 < r) && decide (0 < t)) with
    | true =>
      rw [hq] at hc
      rw [Bool.and_eq_true] at hq
      have ht : 0 < t := of_decide_eq_true hq.2
      have b1 : mOp dFdiv (mVar 4) (mC (.int 840)) [some (.val sc), some (.val k), some (.val many), some (.val c), some (.val (.int r)), some (.val (.int t)), g] = some (.int (r / 840)) := by
        rw [op_of (show mVar 4 _ = some (.int r) from rfl) (show mC (.int 840) _ = some (.int 840) from rfl)]
        exact dFdiv_of (by decide) (by decide)
      have b2 : mOp dSub (mVar 5) (mC (.int 1)) [some (.val sc), some (.val k), some (.val many), some (.val c), some (.val (.int r)), some (.val (.int t)), g] = some (.int (t - 1)) := rfl
      have hb := par_set (i := 4) (j := 5) b1 b2
      rw [whl_t hc hb]
      exact pick_loop n x ρ sc k many c (r / 840) (t - 1) g (by omega) (by omega)
    | false =>
      rw [hq] at hc
      rw [whl_f hc]
      exact ⟨r, t, rfl⟩
theorem log18 : ((10 : Int) ^ 18).natAbs.log2 < 9000 := by decide +kernel
theorem pick_ok (ns : List Int) (h63 : ns.length ≤ 63) (k many : Int) (hk : 0 ≤ k) (hk2 : k ≤ 100000) (hm : 1 ≤ many) (hm2 : many ≤ 2000000000) :
    ∃ r : Int, m_pick [.list (ns.map .int), .int k, .int many] = some (.int r) ∧ 0 ≤ r ∧ r < many := by
  have hlen : ((ns.map PyData.int).length : Nat) ≤ cap := by rw [List.length_map]; exact Nat.le_trans h63 (by decide)
  -- the cell
  have hcell : ∃ c : Int, mIfE (mTest (mOp dNe (mVar 0) (mList (mLst mNil)))) (mOp dIx (mVar 0) (mOp dMod (mVar 1) (mCall dLen (mCons (mVar 0) mNil)))) (mC (.int 0)) (start0 7 [.list (ns.map .int), .int k, .int many]) = some (.int c) := by
    have t0 : mTest (mOp dNe (mVar 0) (mList (mLst mNil))) (start0 7 [.list (ns.map .int), .int k, .int many]) = some (!ns.isEmpty) := by
      refine test_of ?_
      have e1 : mVar 0 (start0 7 [.list (ns.map .int), .int k, .int many]) = some (.list (ns.map .int)) := rfl
      have e2 : mList (mLst mNil) (start0 7 [.list (ns.map .int), .int k, .int many]) = some (.list []) := rfl
      rw [op_of e1 e2, dNe_of (shaped_ints ns) shaped_nil, eqv_nil]
    cases hn : ns with
    | nil =>
      subst hn
      exact ⟨0, by rw [ifE_f t0]; rfl⟩
    | cons n0 r0 =>
      have ne : 0 < ns.length := by rw [hn]; exact Nat.succ_pos _
      rw [← hn]
      rw [hn] at t0
      rw [← hn] at t0
      have t1 : mTest (mOp dNe (mVar 0) (mList (mLst mNil))) (start0 7 [.list (ns.map .int), .int k, .int many]) = some true := by
        rw [t0, hn]; rfl
      rw [ifE_t t1]
      have e1 : mVar 0 (start0 7 [.list (ns.map .int), .int k, .int many]) = some (.list (ns.map .int)) := rfl
      have e2 : mOp dMod (mVar 1) (mCall dLen (mCons (mVar 0) mNil)) (start0 7 [.list (ns.map .int), .int k, .int many]) = some (.int (k % (ns.length : Int))) := by
        have e3 : mCall dLen (mCons (mVar 0) mNil) (start0 7 [.list (ns.map .int), .int k, .int many]) = some (.int ns.length) := by
          rw [call_of (cons_of e1 nil_of), dLen_list hlen, List.length_map]
        rw [op_of (show mVar 1 _ = some (.int k) from rfl) e3]
        exact dMod_of (by omega)
      rw [op_of e1 e2]
      have b1 : 0 ≤ k % (ns.length : Int) := Int.emod_nonneg _ (by omega)
      have b2 : k % (ns.length : Int) < ns.length := Int.emod_lt_of_pos _ (by omega)
      obtain ⟨j, hj⟩ : ∃ j : Nat, k % (ns.length : Int) = (j : Int) := ⟨(k % (ns.length : Int)).toNat, by omega⟩
      rw [hj] at b2 ⊢
      have hjl : j < ns.length := by omega
      refine ⟨ns[j], ?_⟩
      show atI (ns.map PyData.int) (j : Int) = _
      exact atI_nat (by rw [List.getElem?_map, List.getElem?_eq_getElem hjl]; rfl)
  obtain ⟨c, hc⟩ := hcell
  have hmax : ∃ y : Int, mCall dMax2 (mCons (mCall dLen (mCons (mVar 0) mNil)) (mCons (mC (.int 1)) mNil)) [some (.val (.list (ns.map .int))), some (.val (.int k)), some (.val (.int many)), some (.val (.int c)), none, none, none] = some (.int y) ∧ 1 ≤ y ∧ y ≤ 63 := by
    have e1 : mVar 0 [some (.val (.list (ns.map .int))), some (.val (.int k)), some (.val (.int many)), some (.val (.int c)), none, none, none] = some (.list (ns.map .int)) := rfl
    have e3 : mCall dLen (mCons (mVar 0) mNil) [some (.val (.list (ns.map .int))), some (.val (.int k)), some (.val (.int many)), some (.val (.int c)), none, none, none] = some (.int ns.length) := by
      rw [call_of (cons_of e1 nil_of), dLen_list hlen, List.length_map]
    rw [call_of (cons_of e3 (cons_of (show mC (.int 1) _ = some (.int 1) from rfl) nil_of))]
    refine ⟨_, rfl, ?_, ?_⟩ <;> (split <;> omega)
  obtain ⟨y, hy, y1, y2⟩ := hmax
  have e2 : sPar 4 5 (mOp dFdiv (mVar 3) (mOp dPow (mC (.int 10)) (mC (.int 18)))) (mOp dFdiv (mVar 1) (mCall dMax2 (mCons (mCall dLen (mCons (mVar 0) mNil)) (mCons (mC (.int 1)) mNil))))
      [some (.val (.list (ns.map .int))), some (.val (.int k)), some (.val (.int many)), some (.val (.int c)), none, none, none] =
      some (.nx [some (.val (.list (ns.map .int))), some (.val (.int k)), some (.val (.int many)), some (.val (.int c)), some (.val (.int (c / 10 ^ 18))), some (.val (.int (k / y))), none]) := by
    have p1 : mOp dPow (mC (.int 10)) (mC (.int 18)) [some (.val (.list (ns.map .int))), some (.val (.int k)), some (.val (.int many)), some (.val (.int c)), none, none, none] = some (.int (10 ^ 18)) := by
      rw [op_of (show mC (.int 10) _ = some (.int 10) from rfl) (show mC (.int 18) _ = some (.int 18) from rfl)]
      rfl
    have p2 : mOp dFdiv (mVar 3) (mOp dPow (mC (.int 10)) (mC (.int 18))) [some (.val (.list (ns.map .int))), some (.val (.int k)), some (.val (.int many)), some (.val (.int c)), none, none, none] = some (.int (c / 10 ^ 18)) := by
      rw [op_of (show mVar 3 _ = some (.int c) from rfl) p1]
      exact dFdiv_of (by decide +kernel) (by decide +kernel)
    have p3 : mOp dFdiv (mVar 1) (mCall dMax2 (mCons (mCall dLen (mCons (mVar 0) mNil)) (mCons (mC (.int 1)) mNil))) [some (.val (.list (ns.map .int))), some (.val (.int k)), some (.val (.int many)), some (.val (.int c)), none, none, none] = some (.int (k / y)) := by
      rw [op_of (show mVar 1 _ = some (.int k) from rfl) hy]
      exact dFdiv_of (by omega) (by omega)
    rw [par_set p2 p3]
    rfl
  have hky : 0 ≤ k / y := Int.ediv_nonneg hk (by omega)
  obtain ⟨r', t', hl⟩ := pick_loop ((k / y).toNat + 1) 0 [] (.list (ns.map .int)) (.int k) (.int many) (.int c) (c / 10 ^ 18) (k / y) none hky rfl
  have fin : ∀ z : Int, ∃ r : Int, (if 0 < many then some (PyData.int (z % many)) else none) = some (.int r) ∧ 0 ≤ r ∧ r < many := fun z =>
    ⟨z % many, by rw [if_pos (by omega)], Int.emod_nonneg _ (by omega), Int.emod_lt_of_pos _ (by omega)⟩
  -- the whole
  have e0 : b_pick (start0 7 [.list (ns.map .int), .int k, .int many]) = (sSeq (sIf (mTest (mOp dGt (mVar 4) (mC (.int 0))))
      (sRet (mOp dMod (mOp dMod (mVar 4) (mC (.int 840))) (mVar 2))) sNext)
      (sSeq (sAsg (mOp dMod (mOp dMul (mOp dAdd (mOp dMul (mVar 3) (mC (.int 31))) (mOp dMul (mC (.int 6151)) (mOp dAdd (mVar 1) (mC (.int 1))))) (mC (.int 40692))) (mC (.int 2147483399))) (gSet 6))
      (sRet (mOp dMod (mOp dMod (mOp dAdd (mOp dMul (mVar 6) (mVar 6)) (mOp dFdiv (mVar 6) (mC (.int 31)))) (mC (.int 2147483629))) (mVar 2)))))
      [some (.val (.list (ns.map .int))), some (.val (.int k)), some (.val (.int many)), some (.val (.int c)), some (.val (.int r')), some (.val (.int t')), none] := by
    unfold b_pick
    rw [seq_nx (asg_set hc)]
    show sSeq _ _ [some (.val (.list (ns.map .int))), some (.val (.int k)), some (.val (.int many)), some (.val (.int c)), none, none, none] = _
    rw [seq_nx e2]
    have hw : sWhile (fun ρ => fuelOf 5 ρ) (mAnd (mTest (mOp dGt (mVar 4) (mC (.int 0)))) (mTest (mOp dGt (mVar 5) (mC (.int 0)))))
        (sPar 4 5 (mOp dFdiv (mVar 4) (mC (.int 840))) (mOp dSub (mVar 5) (mC (.int 1)))) [some (.val (.list (ns.map .int))), some (.val (.int k)), some (.val (.int many)), some (.val (.int c)), some (.val (.int (c / 10 ^ 18))), some (.val (.int (k / y))), none] = _ := hl
    rw [seq_nx hw]
  by_cases hr : 0 < r'
  · have hg : mTest (mOp dGt (mVar 4) (mC (.int 0))) [some (.val (.list (ns.map .int))), some (.val (.int k)), some (.val (.int many)), some (.val (.int c)), some (.val (.int r')), some (.val (.int t')), none] = some true := by
      refine test_of ?_
      rw [op_of (show mVar 4 _ = some (.int r') from rfl) (show mC (.int 0) _ = some (.int 0) from rfl)]
      show some (PyData.bool (decide (0 < r'))) = _
      rw [decide_eq_true hr]
    obtain ⟨r, h1, h2, h3⟩ := fin (r' % 840)
    refine ⟨r, mDef_rt ?_, h2, h3⟩
    rw [e0, seq_rt]
    rw [if_t hg]
    refine ret_of ?_
    have q1 : mOp dMod (mVar 4) (mC (.int 840)) [some (.val (.list (ns.map .int))), some (.val (.int k)), some (.val (.int many)), some (.val (.int c)), some (.val (.int r')), some (.val (.int t')), none] = some (.int (r' % 840)) := rfl
    rw [op_of q1 (show mVar 2 _ = some (.int many) from rfl)]
    exact h1
  · have hg : mTest (mOp dGt (mVar 4) (mC (.int 0))) [some (.val (.list (ns.map .int))), some (.val (.int k)), some (.val (.int many)), some (.val (.int c)), some (.val (.int r')), some (.val (.int t')), none] = some false := by
      refine test_of ?_
      rw [op_of (show mVar 4 _ = some (.int r') from rfl) (show mC (.int 0) _ = some (.int 0) from rfl)]
      show some (PyData.bool (decide (0 < r'))) = _
      rw [decide_eq_false hr]
    have hx : mOp dMod (mOp dMul (mOp dAdd (mOp dMul (mVar 3) (mC (.int 31))) (mOp dMul (mC (.int 6151)) (mOp dAdd (mVar 1) (mC (.int 1))))) (mC (.int 40692))) (mC (.int 2147483399))
        [some (.val (.list (ns.map .int))), some (.val (.int k)), some (.val (.int many)), some (.val (.int c)), some (.val (.int r')), some (.val (.int t')), none] = some (.int ((c * 31 + 6151 * (k + 1)) * 40692 % 2147483399)) := by
      have a1 : mOp dMul (mVar 3) (mC (.int 31)) [some (.val (.list (ns.map .int))), some (.val (.int k)), some (.val (.int many)), some (.val (.int c)), some (.val (.int r')), some (.val (.int t')), none] = some (.int (c * 31)) := by
        rw [op_of (show mVar 3 _ = some (.int c) from rfl) (show mC (.int 31) _ = some (.int 31) from rfl)]
        exact dMul_r (by decide) (by decide)
      have a2 : mOp dMul (mC (.int 6151)) (mOp dAdd (mVar 1) (mC (.int 1))) [some (.val (.list (ns.map .int))), some (.val (.int k)), some (.val (.int many)), some (.val (.int c)), some (.val (.int r')), some (.val (.int t')), none] = some (.int (6151 * (k + 1))) := by
        rw [op_of (show mC (.int 6151) _ = some (.int 6151) from rfl) (show mOp dAdd (mVar 1) (mC (.int 1)) _ = some (.int (k + 1)) from rfl)]
        exact dMul_r (by omega) (by omega)
      have a3 : mOp dAdd (mOp dMul (mVar 3) (mC (.int 31))) (mOp dMul (mC (.int 6151)) (mOp dAdd (mVar 1) (mC (.int 1)))) [some (.val (.list (ns.map .int))), some (.val (.int k)), some (.val (.int many)), some (.val (.int c)), some (.val (.int r')), some (.val (.int t')), none] = some (.int (c * 31 + 6151 * (k + 1))) := by
        rw [op_of a1 a2]
        rfl
      have a4 : mOp dMul (mOp dAdd (mOp dMul (mVar 3) (mC (.int 31))) (mOp dMul (mC (.int 6151)) (mOp dAdd (mVar 1) (mC (.int 1))))) (mC (.int 40692)) [some (.val (.list (ns.map .int))), some (.val (.int k)), some (.val (.int many)), some (.val (.int c)), some (.val (.int r')), some (.val (.int t')), none] = some (.int ((c * 31 + 6151 * (k + 1)) * 40692)) := by
        rw [op_of a3 (show mC (.int 40692) _ = some (.int 40692) from rfl)]
        exact dMul_r (by decide) (by decide)
      rw [op_of a4 (show mC (.int 2147483399) _ = some (.int 2147483399) from rfl)]
      rfl
    let z := (c * 31 + 6151 * (k + 1)) * 40692 % 2147483399
    have z0 : 0 ≤ z := Int.emod_nonneg _ (by decide)
    have z1 : z < 2147483399 := Int.emod_lt_of_pos _ (by decide)
    obtain ⟨r, h1, h2, h3⟩ := fin ((z * z + z / 31) % 2147483629)
    refine ⟨r, mDef_rt ?_, h2, h3⟩
    rw [e0, seq_nx (by rw [if_f hg]; rfl), seq_nx (asg_set hx)]
    refine ret_of ?_
    show mOp dMod (mOp dMod (mOp dAdd (mOp dMul (mVar 6) (mVar 6)) (mOp dFdiv (mVar 6) (mC (.int 31)))) (mC (.int 2147483629))) (mVar 2) [some (.val (.list (ns.map .int))), some (.val (.int k)), some (.val (.int many)), some (.val (.int c)), some (.val (.int r')), some (.val (.int t')), some (.val (.int z))] = _
    have b1 : mOp dMul (mVar 6) (mVar 6) [some (.val (.list (ns.map .int))), some (.val (.int k)), some (.val (.int many)), some (.val (.int c)), some (.val (.int r')), some (.val (.int t')), some (.val (.int z))] = some (.int (z * z)) := by
      rw [op_of (show mVar 6 _ = some (.int z) from rfl) (show mVar 6 _ = some (.int z) from rfl)]
      exact dMul_r (by omega) (by omega)
    have b2 : mOp dFdiv (mVar 6) (mC (.int 31)) [some (.val (.list (ns.map .int))), some (.val (.int k)), some (.val (.int many)), some (.val (.int c)), some (.val (.int r')), some (.val (.int t')), some (.val (.int z))] = some (.int (z / 31)) := by
      rw [op_of (show mVar 6 _ = some (.int z) from rfl) (show mC (.int 31) _ = some (.int 31) from rfl)]
      exact dFdiv_of (by decide) (by decide)
    have b3 : mOp dAdd (mOp dMul (mVar 6) (mVar 6)) (mOp dFdiv (mVar 6) (mC (.int 31))) [some (.val (.list (ns.map .int))), some (.val (.int k)), some (.val (.int many)), some (.val (.int c)), some (.val (.int r')), some (.val (.int t')), some (.val (.int z))] = some (.int (z * z + z / 31)) := by
      rw [op_of b1 b2]
      rfl
    have b4 : mOp dMod (mOp dAdd (mOp dMul (mVar 6) (mVar 6)) (mOp dFdiv (mVar 6) (mC (.int 31)))) (mC (.int 2147483629)) [some (.val (.list (ns.map .int))), some (.val (.int k)), some (.val (.int many)), some (.val (.int c)), some (.val (.int r')), some (.val (.int t')), some (.val (.int z))] = some (.int ((z * z + z / 31) % 2147483629)) := by
      rw [op_of b3 (show mC (.int 2147483629) _ = some (.int 2147483629) from rfl)]
      rfl
    rw [op_of b4 (show mVar 2 _ = some (.int many) from rfl)]
    exact h1
end DD

set_option Elab.async false
set_option linter.all false
set_option maxRecDepth 100000
set_option maxHeartbeats 4000000
/-! records and names: what the mirrors tell -/
namespace DD.R
open PySem PySem.Spec PyProof.Rows L2 DD
def b_is_whole : En → Option Fl :=
  (sRet (mAndV (mUn (dIsi "int") (mVar 0)) (mAndV (mNotV (mUn (dIsi "bool") (mVar 0))) (mChain dLe dLe (mVar 1) (mVar 0) (mVar 2)))))
def m_is_whole (ds : List D) : Option D := mDef 3 b_is_whole ds
def b_is_word : En → Option Fl :=
  (sRet (mCall (lim 3 m_is_whole) (mCons (mVar 0) (mCons (mC (.int 0)) (mCons (mC (.int 9999)) mNil)))))
def m_is_word (ds : List D) : Option D := mDef 1 b_is_word ds
def b_is_name : En → Option Fl :=
  (sSeq (sIf (mOr (mNot (mTru (mUn (dIsi "str") (mVar 0)))) (mNot (mTest (mChain dLe dLe (mC (.int 1)) (mCall dLen (mCons (mVar 0) mNil)) (mC (.int 8))))))
  (sRet (mC (.bool false)))
  sNext)
  (sRet (mCall dAll (mCons (mList (mLc (mIter (mVar 0)) (gSet 1) mYes (mOp dInS (mVar 1) (mC (.str ("abcdefghijklmnopqrstuvwxyz" : Str)))) [1])) mNil))))
def m_is_name (ds : List D) : Option D := mDef 2 b_is_name ds
def b_is_record : En → Option Fl :=
  (sSeq (sIf (mOr (mNot (mTru (mUn (dIsi "tuple") (mVar 0)))) (mNot (mTest (mChain dLe dLe (mC (.int 1)) (mCall dLen (mCons (mVar 0) mNil)) (mC (.int 8))))))
  (sRet (mC (.bool false)))
  sNext)
  (sRet (mCall dAll (mCons (mList (mLc (mIter (mVar 0)) (gSet 1) mYes (mCall (lim 1 m_is_word) (mCons (mVar 1) mNil)) [1])) mNil))))
def m_is_record (ds : List D) : Option D := mDef 2 b_is_record ds
def b_are_records : En → Option Fl :=
  (sSeq (sIf (mOr (mNot (mTru (mUn (dIsi "tuple") (mVar 0)))) (mTest (mOp dGt (mCall dLen (mCons (mVar 0) mNil)) (mC (.int 30)))))
  (sRet (mC (.bool false)))
  sNext)
  (sRet (mCall dAll (mCons (mList (mLc (mIter (mVar 0)) (gSet 1) mYes (mCall (lim 1 m_is_record) (mCons (mVar 1) mNil)) [1])) mNil))))
def m_are_records (ds : List D) : Option D := mDef 2 b_are_records ds

def isWhole (d : D) (lo hi : Int) : Bool := match d with
  | .int i => decide (lo ≤ i) && decide (i ≤ hi)
  | _ => false
def isWord (d : D) : Bool := isWhole d 0 9999
def abc : List Nat := ("abcdefghijklmnopqrstuvwxyz" : Str).cps.toList
def isNam (d : D) : Bool := match d with
  | .str z => (decide ((1 : Int) ≤ z.length) && decide ((z.length : Int) ≤ 8)) && z.cps.toList.all fun c => decide (c ∈ abc)
  | _ => false
def isRec (d : D) : Bool := match d with
  | .tuple ds => (decide ((1 : Int) ≤ ds.length) && decide ((ds.length : Int) ≤ 8)) && ds.all isWord
  | _ => false
def areRecs (d : D) : Bool := match d with
  | .tuple ds => (!decide ((30 : Int) < ds.length)) && ds.all isRec
  | _ => false
/-- no text or row is too long -/
def okLen : D → Prop
  | .tuple ds => ds.length ≤ cap
  | .str z => z.length ≤ cap
  | _ => True
theorem whole_eq (d : D) (lo hi : Int) : m_is_whole [d, .int lo, .int hi] = some (.bool (isWhole d lo hi)) := by
  cases d with
  | int i =>
    refine mDef_rt (ret_of ?_)
    rw [andV_t (show _ = some (PyData.bool true) from rfl), andV_t (show _ = some (PyData.bool true) from rfl)]
    exact chain_of (x := .int lo) (y := .int i) (z := .int hi) rfl rfl rfl rfl rfl
  | _ => rfl
theorem word_eq (d : D) : m_is_word [d] = some (.bool (isWord d)) := by
  refine mDef_rt (ret_of ?_)
  have e : (mCons (mVar 0) (mCons (mC (.int 0)) (mCons (mC (.int 9999)) mNil))) (start0 1 [d]) = some [d, .int 0, .int 9999] := rfl
  rw [call_of e, lim3]
  exact whole_eq d 0 9999
theorem name_eq (d : D) (h : okLen d) : m_is_name [d] = some (.bool (isNam d)) := by
  cases d with
  | str z =>
    have hz : z.length ≤ cap := h
    have c1 : mChain dLe dLe (mC (.int 1)) (mCall dLen (mCons (mVar 0) mNil)) (mC (.int 8)) (start0 2 [.str z]) = some (.bool (decide ((1 : Int) ≤ z.length) && decide ((z.length : Int) ≤ 8))) := by
      refine chain_of (x := .int 1) (y := .int z.length) (z := .int 8) rfl ?_ rfl rfl rfl
      rw [call_of (cons_of (show mVar 0 (start0 2 [.str z]) = some (.str z) from rfl) nil_of), dLen_str hz]
    have c2 : mOr (mNot (mTru (mUn (dIsi "str") (mVar 0)))) (mNot (mTest (mChain dLe dLe (mC (.int 1)) (mCall dLen (mCons (mVar 0) mNil)) (mC (.int 8))))) (start0 2 [.str z]) = some (!(decide ((1 : Int) ≤ z.length) && decide ((z.length : Int) ≤ 8))) := by
      rw [or_f (show mNot (mTru (mUn (dIsi "str") (mVar 0))) (start0 2 [.str z]) = some false from rfl), not_of (test_of c1)]
    show m_is_name [.str z] = some (.bool ((decide ((1 : Int) ≤ z.length) && decide ((z.length : Int) ≤ 8)) && z.cps.toList.all fun c => decide (c ∈ abc)))
    cases hq : (decide ((1 : Int) ≤ z.length) && decide ((z.length : Int) ≤ 8)) with
    | false =>
      rw [hq] at c2
      refine mDef_rt ?_
      unfold b_is_name
      rw [seq_rt (d := .bool false) (by rw [if_t c2]; rfl)]
      rfl
    | true =>
      rw [hq] at c2
      refine mDef_rt ?_
      unfold b_is_name
      rw [seq_nx (by rw [if_f c2]; rfl)]
      refine ret_of ?_
      have hi : mIter (mVar 0) (start0 2 [.str z]) = some (z.cps.toList.map fun c => .str ⟨#[c]⟩) := rfl
      have hlc : mLc (mIter (mVar 0)) (gSet 1) mYes (mOp dInS (mVar 1) (mC (.str ("abcdefghijklmnopqrstuvwxyz" : Str)))) [1] (start0 2 [.str z]) =
          some ((z.cps.toList.map fun c => PyData.str ⟨#[c]⟩).map fun d => .bool (match d with | .str w => w.cps.toList.all fun c => decide (c ∈ abc) | _ => false)) := by
        refine lc_of hi (by rw [List.length_map, Array.length_toList]; exact hz) fun d hd => ?_
        obtain ⟨c, _, rfl⟩ := List.mem_map.mp hd
        refine ⟨_, rfl, ?_⟩
        show some (PyData.bool (decide (c ∈ abc))) = some (PyData.bool ([c].all fun c => decide (c ∈ abc)))
        simp
      rw [call_of (cons_of (list_of hlc) nil_of)]
      rw [dAll_map]
      rw [List.all_map, Bool.true_and]
      congr 2
      simp [Function.comp_def]
  | _ => rfl
theorem rec_eq (d : D) (h : okLen d) : m_is_record [d] = some (.bool (isRec d)) := by
  cases d with
  | tuple ds =>
    have hz : ds.length ≤ cap := h
    have c1 : mChain dLe dLe (mC (.int 1)) (mCall dLen (mCons (mVar 0) mNil)) (mC (.int 8)) (start0 2 [.tuple ds]) = some (.bool (decide ((1 : Int) ≤ ds.length) && decide ((ds.length : Int) ≤ 8))) := by
      refine chain_of (x := .int 1) (y := .int ds.length) (z := .int 8) rfl ?_ rfl rfl rfl
      rw [call_of (cons_of (show mVar 0 (start0 2 [.tuple ds]) = some (.tuple ds) from rfl) nil_of), dLen_tup hz]
    have c2 : mOr (mNot (mTru (mUn (dIsi "tuple") (mVar 0)))) (mNot (mTest (mChain dLe dLe (mC (.int 1)) (mCall dLen (mCons (mVar 0) mNil)) (mC (.int 8))))) (start0 2 [.tuple ds]) = some (!(decide ((1 : Int) ≤ ds.length) && decide ((ds.length : Int) ≤ 8))) := by
      rw [or_f (show mNot (mTru (mUn (dIsi "tuple") (mVar 0))) (start0 2 [.tuple ds]) = some false from rfl), not_of (test_of c1)]
    show m_is_record [.tuple ds] = some (.bool ((decide ((1 : Int) ≤ ds.length) && decide ((ds.length : Int) ≤ 8)) && ds.all isWord))
    cases hq : (decide ((1 : Int) ≤ ds.length) && decide ((ds.length : Int) ≤ 8)) with
    | false =>
      rw [hq] at c2
      refine mDef_rt ?_
      unfold b_is_record
      rw [seq_rt (d := .bool false) (by rw [if_t c2]; rfl)]
      rfl
    | true =>
      rw [hq] at c2
      refine mDef_rt ?_
      unfold b_is_record
      rw [seq_nx (by rw [if_f c2]; rfl)]
      refine ret_of ?_
      have hlc : mLc (mIter (mVar 0)) (gSet 1) mYes (mCall (lim 1 m_is_word) (mCons (mVar 1) mNil)) [1] (start0 2 [.tuple ds]) = some (ds.map fun d => .bool (isWord d)) := by
        refine lc_of rfl hz fun d hd => ⟨_, rfl, ?_⟩
        rw [call_of (cons_of (show mVar 1 _ = some d from rfl) nil_of), lim1]
        exact word_eq d
      rw [call_of (cons_of (list_of hlc) nil_of), dAll_map, Bool.true_and]
  | _ => rfl
theorem recs_eq (d : D) (h : okLen d) (k : ∀ ds, d = .tuple ds → ∀ x ∈ ds, okLen x) : m_are_records [d] = some (.bool (areRecs d)) := by
  cases d with
  | tuple ds =>
    have hz : ds.length ≤ cap := h
    have hk := k ds rfl
    have c1 : mOp dGt (mCall dLen (mCons (mVar 0) mNil)) (mC (.int 30)) (start0 2 [.tuple ds]) = some (.bool (decide ((30 : Int) < ds.length))) := by
      have e1 : mCall dLen (mCons (mVar 0) mNil) (start0 2 [.tuple ds]) = some (.int ds.length) := by
        rw [call_of (cons_of (show mVar 0 (start0 2 [.tuple ds]) = some (.tuple ds) from rfl) nil_of), dLen_tup hz]
      rw [op_of e1 (show mC (.int 30) _ = some (.int 30) from rfl)]
      rfl
    have c2 : mOr (mNot (mTru (mUn (dIsi "tuple") (mVar 0)))) (mTest (mOp dGt (mCall dLen (mCons (mVar 0) mNil)) (mC (.int 30)))) (start0 2 [.tuple ds]) = some (decide ((30 : Int) < ds.length)) := by
      rw [or_f (show mNot (mTru (mUn (dIsi "tuple") (mVar 0))) (start0 2 [.tuple ds]) = some false from rfl), test_of c1]
    show m_are_records [.tuple ds] = some (.bool ((!decide ((30 : Int) < ds.length)) && ds.all isRec))
    cases hq : decide ((30 : Int) < ds.length) with
    | true =>
      rw [hq] at c2
      refine mDef_rt ?_
      unfold b_are_records
      rw [seq_rt (d := .bool false) (by rw [if_t c2]; rfl)]
      rfl
    | false =>
      rw [hq] at c2
      refine mDef_rt ?_
      unfold b_are_records
      rw [seq_nx (by rw [if_f c2]; rfl)]
      refine ret_of ?_
      have hlc : mLc (mIter (mVar 0)) (gSet 1) mYes (mCall (lim 1 m_is_record) (mCons (mVar 1) mNil)) [1] (start0 2 [.tuple ds]) = some (ds.map fun d => .bool (isRec d)) := by
        refine lc_of rfl hz fun d hd => ⟨_, rfl, ?_⟩
        rw [call_of (cons_of (show mVar 1 _ = some d from rfl) nil_of), lim1]
        exact rec_eq d (hk d hd)
      rw [call_of (cons_of (list_of hlc) nil_of), dAll_map]
      rfl
  | _ => rfl
end DD.R

set_option Elab.async false
set_option linter.all false
set_option maxRecDepth 100000
set_option maxHeartbeats 4000000
/-! reckoning with mirrors by simp -/
namespace DD
open PySem PySem.Spec PyProof.Rows L2
theorem coll_ex {g : D → En → Option En} {e : En → Option D} {ρ : En} {P : D → Prop} : ∀ {ds : List D}, (∀ d ∈ ds, ∃ ρ1 x, g d ρ = some ρ1 ∧ e ρ1 = some x ∧ P x) → ∃ xs, coll g mYes e ρ ds = some xs ∧ xs.length = ds.length ∧ ∀ x ∈ xs, P x
  | [], _ => ⟨[], rfl, rfl, fun x h => nomatch h⟩
  | d :: ds, h => by
    obtain ⟨ρ1, x, h1, h2, h3⟩ := h d List.mem_cons_self
    obtain ⟨xs, i1, i2, i3⟩ := coll_ex (g := g) (e := e) (ρ := ρ) (P := P) (ds := ds) fun y hy => h y (List.mem_cons_of_mem _ hy)
    refine ⟨x :: xs, ?_, by simp [i2], fun y hy => ?_⟩
    · have s1 : coll g mYes e ρ (d :: ds) = (g d ρ).bind fun ρ1 => (mYes ρ1).bind fun b => if b = true then (e ρ1).bind fun x => (coll g mYes e ρ ds).map fun r => x :: r else coll g mYes e ρ ds := rfl
      rw [s1, h1]
      show ((e ρ1).bind fun x => (coll g mYes e ρ ds).map fun r => x :: r) = _
      rw [h2, i1]
      rfl
    · rcases List.mem_cons.mp hy with rfl | hy
      · exact h3
      · exact i3 y hy
theorem coll_if {g : D → En → Option En} {c : En → Option Bool} {e : En → Option D} {ρ : En} {p : D → Bool} {f : D → D} : ∀ {ds : List D}, (∀ d ∈ ds, ∃ ρ1, g d ρ = some ρ1 ∧ c ρ1 = some (p d) ∧ (p d = true → e ρ1 = some (f d))) → coll g c e ρ ds = some ((ds.filter p).map f)
  | [], _ => rfl
  | d :: ds, h => by
    obtain ⟨ρ1, h1, h2, h3⟩ := h d List.mem_cons_self
    have ih := coll_if (g := g) (c := c) (e := e) (ρ := ρ) (p := p) (f := f) (ds := ds) fun y hy => h y (List.mem_cons_of_mem _ hy)
    have s1 : coll g c e ρ (d :: ds) = (g d ρ).bind fun ρ1 => (c ρ1).bind fun b => if b = true then (e ρ1).bind fun x => (coll g c e ρ ds).map fun r => x :: r else coll g c e ρ ds := rfl
    rw [s1, h1]
    show ((c ρ1).bind fun b => _) = _
    rw [h2]
    show (if p d = true then (e ρ1).bind fun x => (coll g c e ρ ds).map fun r => x :: r else coll g c e ρ ds) = _
    cases hp : p d with
    | true =>
      rw [if_pos rfl, h3 hp, ih, List.filter_cons_of_pos hp]
      rfl
    | false =>
      rw [if_neg Bool.false_ne_true, ih, List.filter_cons_of_neg (by rw [hp]; exact Bool.false_ne_true)]
theorem lc_if {it : En → Option (List D)} {g : D → En → Option En} {c : En → Option Bool} {e : En → Option D} {ρ : En} {vs : List Nat} {ds : List D} {p : D → Bool} {f : D → D} (hi : it ρ = some ds) (hz : ds.length ≤ cap) (h : ∀ d ∈ ds, ∃ ρ1, g d (wipeM ρ vs) = some ρ1 ∧ c ρ1 = some (p d) ∧ (p d = true → e ρ1 = some (f d))) :
    mLc it g c e vs ρ = some ((ds.filter p).map f) := by
  unfold mLc
  rw [hi]
  show (if ds.length ≤ cap then _ else _) = _
  rw [if_pos hz]
  exact coll_if h
/-- texts that pass a test -/
theorem coll_strs {g : D → En → Option En} {c : En → Option Bool} {e : En → Option D} {ρ : En} {p : Str → Bool} : ∀ {l : List Str}, (∀ n ∈ l, ∃ ρ1, g (.str n) ρ = some ρ1 ∧ c ρ1 = some (p n) ∧ e ρ1 = some (.str n)) → coll g c e ρ (l.map .str) = some ((l.filter p).map .str)
  | [], _ => rfl
  | n :: r, h => by
    obtain ⟨ρ1, h1, h2, h3⟩ := h n List.mem_cons_self
    have ih := coll_strs (g := g) (c := c) (e := e) (ρ := ρ) (p := p) (l := r) fun y hy => h y (List.mem_cons_of_mem _ hy)
    have s1 : coll g c e ρ ((n :: r).map .str) = (g (.str n) ρ).bind fun ρ1 => (c ρ1).bind fun b => if b = true then (e ρ1).bind fun x => (coll g c e ρ (r.map .str)).map fun r => x :: r else coll g c e ρ (r.map .str) := rfl
    rw [s1, h1]
    show ((c ρ1).bind fun b => _) = _
    rw [h2]
    show (if p n = true then (e ρ1).bind fun x => (coll g c e ρ (r.map .str)).map fun r => x :: r else coll g c e ρ (r.map .str)) = _
    cases hp : p n with
    | true =>
      rw [if_pos rfl, h3, ih, List.filter_cons_of_pos hp]
      rfl
    | false =>
      rw [if_neg Bool.false_ne_true, ih, List.filter_cons_of_neg (by rw [hp]; exact Bool.false_ne_true)]
theorem lc_strs {it : En → Option (List D)} {g : D → En → Option En} {c : En → Option Bool} {e : En → Option D} {ρ : En} {vs : List Nat} {p : Str → Bool} {l : List Str} (hi : it ρ = some (l.map .str)) (hz : l.length ≤ cap) (h : ∀ n ∈ l, ∃ ρ1, g (.str n) (wipeM ρ vs) = some ρ1 ∧ c ρ1 = some (p n) ∧ e ρ1 = some (.str n)) :
    mLc it g c e vs ρ = some ((l.filter p).map .str) := by
  unfold mLc
  rw [hi]
  show (if (l.map PyData.str).length ≤ cap then _ else _) = _
  rw [if_pos (by rw [List.length_map]; exact hz)]
  exact coll_strs h
theorem shaped_str {a : Str} (h : PyData.strOk a = true) : SeqAt.shaped (.str a) = true := by simp [SeqAt.shaped, PyData.canLay0, PyData.depth, h]
theorem dEq_str {a b : Str} (h : PyData.strOk a = true) (k : PyData.strOk b = true) : dEq (.str a) (.str b) = some (.bool (decide (a = b))) := by rw [dEq_of (shaped_str h) (shaped_str k), eqv_str]
theorem dNe_str {a b : Str} (h : PyData.strOk a = true) (k : PyData.strOk b = true) : dNe (.str a) (.str b) = some (.bool (!decide (a = b))) := by rw [dNe_of (shaped_str h) (shaped_str k), eqv_str]
theorem sized_le {ds : List D} (h : ds.length ≤ cap) : sized ds = some ds := if_pos h
theorem cap_s {n : Nat} (h : n ≤ 1000) : n ≤ cap := Nat.le_trans h (by decide)
theorem loop_cons {g : D → En → Option En} {b : En → Option Fl} {d : D} {ds : List D} {ρ ρ1 ρ2 : En} (h1 : g d ρ = some ρ1) (h2 : b ρ1 = some (.nx ρ2)) : loop g b (d :: ds) ρ = loop g b ds ρ2 := by
  have : loop g b (d :: ds) ρ = (g d ρ).bind fun ρ1 => (b ρ1).bind fun f => match f with
    | .nx ρ2 => loop g b ds ρ2
    | .ct ρ2 => loop g b ds ρ2
    | .bk ρ2 => some (.nx ρ2)
    | .rt d => some (.rt d) := rfl
  rw [this, h1]
  show ((b ρ1).bind fun f => _) = _
  rw [h2]
  rfl
/-! what can be compared -/
def Lay (k : Nat) (d : D) : Prop := d.canLay0 = true ∧ d.depth ≤ k
theorem Lay.mono {k j : Nat} {d : D} (h : Lay k d) (l : k ≤ j) : Lay j d := ⟨h.1, Nat.le_trans h.2 l⟩
theorem lay_str {x : Str} (h : PyData.strOk x = true) : Lay 0 (.str x) := ⟨by simp [PyData.canLay0, h], by simp [PyData.depth]⟩
theorem lay_int {i : Int} : Lay 0 (.int i) := ⟨by simp [PyData.canLay0], by simp [PyData.depth]⟩
theorem lay_none : Lay 0 .none := ⟨by simp [PyData.canLay0], by simp [PyData.depth]⟩
theorem lay_bool {b : Bool} : Lay 0 (.bool b) := ⟨by simp [PyData.canLay0], by simp [PyData.depth]⟩
theorem lay_all {k : Nat} : ∀ {ds : List D}, (∀ d ∈ ds, Lay k d) → PyData.canLayAll0 ds = true ∧ PyData.depthAll ds ≤ k
  | [], _ => ⟨by simp [PyData.canLayAll0], by simp [PyData.depthAll]⟩
  | d :: ds, h => by
    obtain ⟨i1, i2⟩ := lay_all (ds := ds) fun x hx => h x (List.mem_cons_of_mem _ hx)
    obtain ⟨h1, h2⟩ := h d List.mem_cons_self
    refine ⟨by simp [PyData.canLayAll0, h1, i1], ?_⟩
    have : PyData.depthAll (d :: ds) = max d.depth (PyData.depthAll ds) := by simp [PyData.depthAll]
    rw [this]; omega
theorem lay_tup {k : Nat} {ds : List D} (h : ∀ d ∈ ds, Lay k d) : Lay (k + 1) (.tuple ds) := by
  obtain ⟨i1, i2⟩ := lay_all h
  exact ⟨by simp [PyData.canLay0, i1], by simp [PyData.depth]; omega⟩
theorem lay_list {k : Nat} {ds : List D} (h : ∀ d ∈ ds, Lay k d) : Lay (k + 1) (.list ds) := by
  obtain ⟨i1, i2⟩ := lay_all h
  exact ⟨by simp [PyData.canLay0, i1], by simp [PyData.depth]; omega⟩
theorem Lay.shaped {k : Nat} {d : D} (h : Lay k d) (l : k ≤ 64) : SeqAt.shaped d = true := by
  unfold SeqAt.shaped
  rw [h.1, decide_eq_true (Nat.le_trans h.2 l)]
  rfl
theorem dNe_self {k : Nat} {d : D} (h : Lay k d) (l : k ≤ 64) : dNe d d = some (.bool false) := by
  rw [dNe_of (h.shaped l) (h.shaped l), SeqAt.eqv_refl _ h.1]
  rfl
theorem lay_strs_t {l : List Str} (h : ∀ x ∈ l, PyData.strOk x = true) : Lay 1 (.tuple (l.map .str)) := lay_tup fun d hd => by
  obtain ⟨x, hx, rfl⟩ := List.mem_map.mp hd
  exact lay_str (h x hx)
theorem lay_strs_l {l : List Str} (h : ∀ x ∈ l, PyData.strOk x = true) : Lay 1 (.list (l.map .str)) := lay_list fun d hd => by
  obtain ⟨x, hx, rfl⟩ := List.mem_map.mp hd
  exact lay_str (h x hx)
theorem eqv_lnil {l : List D} : PyData.eqv (.list l) (.list []) = l.isEmpty := by cases l <;> simp [PyData.eqv, PyData.eqvAll]
/-- a row of texts against [] -/
theorem dNe_lnil {l : List Str} (h : ∀ x ∈ l, PyData.strOk x = true) : dNe (.list (l.map .str)) (.list []) = some (.bool (!l.isEmpty)) := by
  rw [dNe_of ((lay_strs_l h).shaped (by decide)) ((lay_list (k := 0) (ds := []) fun d hd => nomatch hd).shaped (by decide)), eqv_lnil]
  cases l <;> rfl
end DD

set_option Elab.async false
set_option linter.all false
set_option maxRecDepth 100000
set_option maxHeartbeats 4000000
namespace DD
open PySem PySem.Spec PyProof.Rows L2
def topS (i : Nat) : Stmt := PySem.Challenge.pw_batchyard_k65_whole_cards.main.body.getD i (.Pass ⟨0, 0, 0, 0⟩)
abbrev s_is_whole : Stmt := topS 6
abbrev N_is_whole : List Str := ["thing", "low", "high"]
theorem sc_is_whole : FnScope N_is_whole ["thing", "low", "high"] (defScope s_is_whole) := ⟨rfl, rfl, rfl, by decide +kernel, rfl, by decide +kernel, by decide +kernel⟩
abbrev s_is_name : Stmt := topS 7
abbrev N_is_name : List Str := ["thing", "sign"]
theorem sc_is_name : FnScope N_is_name ["thing"] (defScope s_is_name) := ⟨rfl, rfl, rfl, by decide +kernel, rfl, by decide +kernel, by decide +kernel⟩
abbrev s_is_file_card : Stmt := topS 15
abbrev N_is_file_card : List Str := ["thing", "reference", "how", "then"]
theorem sc_is_file_card : FnScope N_is_file_card ["thing"] (defScope s_is_file_card) := ⟨rfl, rfl, rfl, by decide +kernel, rfl, by decide +kernel, by decide +kernel⟩
abbrev s_is_name_alone : Stmt := topS 16
abbrev N_is_name_alone : List Str := ["reference"]
theorem sc_is_name_alone : FnScope N_is_name_alone ["reference"] (defScope s_is_name_alone) := ⟨rfl, rfl, rfl, by decide +kernel, rfl, by decide +kernel, by decide +kernel⟩
abbrev s_is_for_file : Stmt := topS 17
abbrev N_is_for_file : List Str := ["card"]
theorem sc_is_for_file : FnScope N_is_for_file ["card"] (defScope s_is_for_file) := ⟨rfl, rfl, rfl, by decide +kernel, rfl, by decide +kernel, by decide +kernel⟩
abbrev s_library_of : Stmt := topS 18
abbrev N_library_of : List Str := ["program"]
theorem sc_library_of : FnScope N_library_of ["program"] (defScope s_library_of) := ⟨rfl, rfl, rfl, by decide +kernel, rfl, by decide +kernel, by decide +kernel⟩
abbrev s_card_line : Stmt := topS 19
abbrev N_card_line : List Str := ["card", "reference", "how", "then", "part"]
theorem sc_card_line : FnScope N_card_line ["card"] (defScope s_card_line) := ⟨rfl, rfl, rfl, by decide +kernel, rfl, by decide +kernel, by decide +kernel⟩
abbrev s_card_in : Stmt := topS 20
abbrev N_card_in : List Str := ["words", "name", "generation", "member", "volume", "how", "then", "reference", "card"]
theorem sc_card_in : FnScope N_card_in ["words"] (defScope s_card_in) := ⟨rfl, rfl, rfl, by decide +kernel, rfl, by decide +kernel, by decide +kernel⟩
abbrev s_passes_of : Stmt := topS 21
abbrev N_passes_of : List Str := ["steps", "told", "passed", "step", "card"]
theorem sc_passes_of : FnScope N_passes_of ["steps"] (defScope s_passes_of) := ⟨rfl, rfl, rfl, by decide +kernel, rfl, by decide +kernel, by decide +kernel⟩
abbrev s_needs_of : Stmt := topS 22
abbrev N_needs_of : List Str := ["steps", "alone", "shared", "volumes", "step", "passed", "library", "card", "reference", "wanted", "name", "volume"]
theorem sc_needs_of : FnScope N_needs_of ["steps"] (defScope s_needs_of) := ⟨rfl, rfl, rfl, by decide +kernel, rfl, by decide +kernel, by decide +kernel⟩
abbrev s_is_shared_kept : Stmt := topS 23
abbrev N_is_shared_kept : List Str := ["card"]
theorem sc_is_shared_kept : FnScope N_is_shared_kept ["card"] (defScope s_is_shared_kept) := ⟨rfl, rfl, rfl, by decide +kernel, rfl, by decide +kernel, by decide +kernel⟩
abbrev s__is_reference : Stmt := topS 24
abbrev N__is_reference : List Str := ["thing", "name", "generation", "member", "volume", "told", "part"]
theorem sc__is_reference : FnScope N__is_reference ["thing"] (defScope s__is_reference) := ⟨rfl, rfl, rfl, by decide +kernel, rfl, by decide +kernel, by decide +kernel⟩
abbrev s__are_texts : Stmt := topS 25
abbrev N__are_texts : List Str := ["thing", "part"]
theorem sc__are_texts : FnScope N__are_texts ["thing"] (defScope s__are_texts) := ⟨rfl, rfl, rfl, by decide +kernel, rfl, by decide +kernel, by decide +kernel⟩
abbrev s__part_text : Stmt := topS 26
abbrev N__part_text : List Str := ["part"]
theorem sc__part_text : FnScope N__part_text ["part"] (defScope s__part_text) := ⟨rfl, rfl, rfl, by decide +kernel, rfl, by decide +kernel, by decide +kernel⟩
abbrev s__read_part : Stmt := topS 27
abbrev N__read_part : List Str := ["word"]
theorem sc__read_part : FnScope N__read_part ["word"] (defScope s__read_part) := ⟨rfl, rfl, rfl, by decide +kernel, rfl, by decide +kernel, by decide +kernel⟩
abbrev s__read_generation : Stmt := topS 28
abbrev N__read_generation : List Str := ["word", "generation"]
theorem sc__read_generation : FnScope N__read_generation ["word"] (defScope s__read_generation) := ⟨rfl, rfl, rfl, by decide +kernel, rfl, by decide +kernel, by decide +kernel⟩
abbrev s__passed_behind : Stmt := topS 29
abbrev N__passed_behind : List Str := ["passed", "card", "name", "other"]
theorem sc__passed_behind : FnScope N__passed_behind ["passed", "card"] (defScope s__passed_behind) := ⟨rfl, rfl, rfl, by decide +kernel, rfl, by decide +kernel, by decide +kernel⟩
abbrev s__rising : Stmt := topS 30
abbrev N__rising : List Str := ["names"]
theorem sc__rising : FnScope N__rising ["names"] (defScope s__rising) := ⟨rfl, rfl, rfl, by decide +kernel, rfl, by decide +kernel, by decide +kernel⟩
abbrev s__law_drawn : Stmt := topS 32
abbrev N__law_drawn : List Str := ["_law_script", "_law_k", "_law_many", "_law_cell", "_law_turn", "_law_rest"]
theorem sc__law_drawn : FnScope N__law_drawn ["_law_script", "_law_k", "_law_many"] (defScope s__law_drawn) := ⟨rfl, rfl, rfl, by decide +kernel, rfl, by decide +kernel, by decide +kernel⟩
abbrev s__law_cards : Stmt := topS 33
abbrev N__law_cards : List Str := ["_law_script", "_law_at", "_law_names", "_law_found", "_law_k", "_law_name", "_law_way", "_law_rests", "_law_rest", "_law_how", "_law_thens", "_law_then"]
theorem sc__law_cards : FnScope N__law_cards ["_law_script", "_law_at", "_law_names"] (defScope s__law_cards) := ⟨rfl, rfl, rfl, by decide +kernel, rfl, by decide +kernel, by decide +kernel⟩
abbrev s__law_again : Stmt := topS 34
abbrev N__law_again : List Str := ["_law_line", "e"]
theorem sc__law_again : FnScope N__law_again ["_law_line"] (defScope s__law_again) := ⟨rfl, rfl, rfl, by decide +kernel, rfl, by decide +kernel, by decide +kernel⟩
abbrev s_law : Stmt := topS 35
abbrev N_law : List Str := ["_law_script", "_law_cards_here", "_law_card", "_law_back", "_law_k", "_law_line", "_law_at", "_law_place", "_law_sign", "_law_put", "_law_spoilt", "_law_names", "_law_needs", "_law_other"]
theorem sc_law : FnScope N_law ["_law_script"] (defScope s_law) := ⟨rfl, rfl, rfl, by decide +kernel, rfl, by decide +kernel, by decide +kernel⟩
/-! ### mirrors -/
def b_is_whole : En → Option Fl :=
  (sRet (mAndV (mUn (dIsi "int") (mVar 0)) (mAndV (mNotV (mUn (dIsi "bool") (mVar 0))) (mChain dLe dLe (mVar 1) (mVar 0) (mVar 2)))))
def m_is_whole (ds : List D) : Option D := mDef 3 b_is_whole ds
def b_is_name : En → Option Fl :=
  (sSeq (sIf (mOr (mNot (mTru (mUn (dIsi "str") (mVar 0)))) (mNot (mTest (mChain dLe dLe (mC (.int 1)) (mCall dLen (mCons (mVar 0) mNil)) (mC (.int (8)))))))
  (sRet (mC (.bool false)))
  sNext)
  (sRet (mCall dAll (mCons (mList (mLc (mIter (mVar 0)) (gSet 1) mYes (mOp dInS (mVar 1) (mC (.str ("abcdefghijklmnopqrstuvwxyz" : Str)))) [1])) mNil))))
def m_is_name (ds : List D) : Option D := mDef 2 b_is_name ds
def b__is_reference : En → Option Fl :=
  (sSeq (sIf (mOr (mNot (mTru (mUn (dIsi "tuple") (mVar 0)))) (mTest (mOp dNe (mCall dLen (mCons (mVar 0) mNil)) (mC (.int 4)))))
  (sRet (mC (.bool false)))
  sNext)
  (sSeq (sAsg (mVar 0) (gAnyM 4 (gConsM (gSet 1) (gConsM (gSet 2) (gConsM (gSet 3) (gConsM (gSet 4) gNilM))))))
  (sSeq (sAsg (mList (mLc (mIter (mSlY (mVar 0) (mPart (mC (.int 1))) mNoPart)) (gSet 6) (mTest (mOp dIsNot (mVar 6) (mC .none))) (mVar 6) [6])) (gSet 5))
  (sSeq (sIf (mOr (mNot (mTru (mCall (lim 1 m_is_name) (mCons (mVar 1) mNil)))) (mTest (mOp dGt (mCall dLen (mCons (mVar 5) mNil)) (mC (.int 1)))))
  (sRet (mC (.bool false)))
  sNext)
  (sSeq (sIf (mTest (mOp dIsNot (mVar 2) (mC .none)))
  (sRet (mCall (lim 3 m_is_whole) (mCons (mVar 2) (mCons (mC (.int (-8))) (mCons (mC (.int (1))) mNil)))))
  sNext)
  (sRet (mCall dAll (mCons (mList (mLc (mIter (mTup (mCons (mVar 3) (mCons (mVar 4) mNil)))) (gSet 6) mYes (mOrV (mOp dIs (mVar 6) (mC .none)) (mCall (lim 1 m_is_name) (mCons (mVar 6) mNil))) [6])) mNil))))))))
def m__is_reference (ds : List D) : Option D := mDef 7 b__is_reference ds
def b_is_name_alone : En → Option Fl :=
  (sRet (mOp dEq (mSlY (mVar 0) (mPart (mC (.int 1))) mNoPart) (mTup (mCons (mC .none) (mCons (mC .none) (mCons (mC .none) mNil))))))
def m_is_name_alone (ds : List D) : Option D := mDef 1 b_is_name_alone ds
def b_is_file_card : En → Option Fl :=
  (sSeq (sIf (mOr (mNot (mTru (mUn (dIsi "tuple") (mVar 0)))) (mTest (mOp dNe (mCall dLen (mCons (mVar 0) mNil)) (mC (.int 3)))))
  (sRet (mC (.bool false)))
  sNext)
  (sSeq (sAsg (mVar 0) (gAnyM 3 (gConsM (gSet 1) (gConsM (gSet 2) (gConsM (gSet 3) gNilM)))))
  (sSeq (sIf (mOr (mNot (mTru (mCall (lim 1 m__is_reference) (mCons (mVar 1) mNil)))) (mOr (mTest (mOp (dInX true) (mVar 2) (mC (.tuple [(.str ("old" : Str)), (.str ("shared" : Str)), (.str ("new" : Str)), (.str ("more" : Str))])))) (mTest (mOp (dInX true) (mVar 3) (mC (.tuple [(.str ("keep" : Str)), (.str ("drop" : Str)), (.str ("pass" : Str))]))))))
  (sRet (mC (.bool false)))
  sNext)
  (sSeq (sIf (mAnd (mTest (mOp dEq (mVar 3) (mC (.str ("pass" : Str))))) (mNot (mTru (mCall (lim 1 m_is_name_alone) (mCons (mVar 1) mNil)))))
  (sRet (mC (.bool false)))
  sNext)
  (sRet (mOrV (mOp dNe (mOp dIx (mVar 1) (mC (.int 1))) (mC (.int (1)))) (mOp (dInX false) (mVar 2) (mTup (mCons (mC (.str ("new" : Str))) (mCons (mC (.str ("more" : Str))) mNil))))))))))
def m_is_file_card (ds : List D) : Option D := mDef 4 b_is_file_card ds
def b_is_for_file : En → Option Fl :=
  (sRet (mOp dNe (mOp dIx (mVar 0) (mC (.int 0))) (mC (.str ("data" : Str)))))
def m_is_for_file (ds : List D) : Option D := mDef 1 b_is_for_file ds
def b_library_of : En → Option Fl :=
  (sRet (mIfE (mTru (mUn (dIsi "str") (mOp dIx (mVar 0) (mC (.int 0))))) (mOp dIx (mVar 0) (mC (.int 0))) (mC .none)))
def m_library_of (ds : List D) : Option D := mDef 1 b_library_of ds
def b__part_text : En → Option Fl :=
  (sRet (mIfE (mTest (mOp dIs (mVar 0) (mC .none))) (mC (.str ("-" : Str))) (mCall dStrA (mCons (mVar 0) mNil))))
def m__part_text (ds : List D) : Option D := mDef 1 b__part_text ds
def b_card_line : En → Option Fl :=
  (sSeq (sAsg (mVar 0) (gAnyM 3 (gConsM (gSet 1) (gConsM (gSet 2) (gConsM (gSet 3) gNilM)))))
  (sRet (mOp dJoin (mC (.str (" " : Str))) (mList (mLc (mIter (mTup (mStar (mVar 1) (mCons (mVar 2) (mCons (mVar 3) mNil))))) (gSet 4) mYes (mCall (lim 1 m__part_text) (mCons (mVar 4) mNil)) [4])))))
def m_card_line (ds : List D) : Option D := mDef 5 b_card_line ds
def b__are_texts : En → Option Fl :=
  (sRet (mAndV (mUn (dIsi "list") (mVar 0)) (mCall dAll (mCons (mList (mLc (mIter (mVar 0)) (gSet 1) mYes (mUn (dIsi "str") (mVar 1)) [1])) mNil))))
def m__are_texts (ds : List D) : Option D := mDef 2 b__are_texts ds
def b__read_part : En → Option Fl :=
  (sRet (mIfE (mTest (mOp dEq (mVar 0) (mC (.str ("-" : Str))))) (mC .none) (mVar 0)))
def m__read_part (ds : List D) : Option D := mDef 1 b__read_part ds
def b__read_generation : En → Option Fl :=
  (sSeq (sFor (mRange2 (mCons (mC (.int (-8))) (mCons (mOp dAdd (mC (.int (1))) (mC (.int 1))) mNil))) (gSet 1)
  (sIf (mTest (mOp dEq (mVar 0) (mCall dStrA (mCons (mVar 1) mNil))))
  (sRet (mVar 1))
  sNext))
  (sRet (mCall (lim 1 m__read_part) (mCons (mVar 0) mNil))))
def m__read_generation (ds : List D) : Option D := mDef 2 b__read_generation ds
def b_card_in : En → Option FlX :=
  (xSeq (xIf (mOr (mNot (mTru (mCall (lim 1 m__are_texts) (mCons (mVar 0) mNil)))) (mTest (mOp dNe (mCall dLen (mCons (mVar 0) mNil)) (mC (.int (6))))))
  (xRaise 0)
  (xFl sNext))
  (xSeq (xFl (sAsg (mVar 0) (gAnyM 6 (gConsM (gSet 1) (gConsM (gSet 2) (gConsM (gSet 3) (gConsM (gSet 4) (gConsM (gSet 5) (gConsM (gSet 6) gNilM)))))))))
  (xSeq (xFl (sAsg (mTup (mCons (mVar 1) (mCons (mCall (lim 1 m__read_generation) (mCons (mVar 2) mNil)) (mCons (mCall (lim 1 m__read_part) (mCons (mVar 3) mNil)) (mCons (mCall (lim 1 m__read_part) (mCons (mVar 4) mNil)) mNil))))) (gSet 7)))
  (xSeq (xFl (sAsg (mTup (mCons (mVar 7) (mCons (mVar 5) (mCons (mVar 6) mNil)))) (gSet 8)))
  (xSeq (xIf (mNot (mTru (mCall (lim 1 m_is_file_card) (mCons (mVar 8) mNil))))
  (xRaise 0)
  (xFl sNext))
  (xFl (sRet (mVar 8))))))))
def m_card_in (ds : List D) : Option Rs := xDef 9 b_card_in ds
def b__passed_behind : En → Option Fl :=
  (sSeq (sAsg (mOp dIx (mOp dIx (mVar 1) (mC (.int 0))) (mC (.int 0))) (gSet 2))
  (sSeq (sIf (mTest (mOp dNe (mOp dIx (mVar 1) (mC (.int 2))) (mC (.str ("pass" : Str)))))
  (sRet (mList (mLc (mIter (mVar 0)) (gSet 3) (mTest (mOp dNe (mVar 3) (mVar 2))) (mVar 3) [3])))
  sNext)
  (sRet (mIfE (mTest (mOp (dInX false) (mVar 2) (mVar 0))) (mVar 0) (mList (mLst (mStar (mVar 0) (mCons (mVar 2) mNil))))))))
def m__passed_behind (ds : List D) : Option D := mDef 4 b__passed_behind ds
def b_passes_of : En → Option Fl :=
  (sSeq (sOwn 1 (mLst mNil))
  (sSeq (sAsg (mList (mLst mNil)) (gSet 2))
  (sSeq (sFor (mIter (mVar 0)) (gSet 3)
  (sSeq (sAppend 1 (mCall dTupOf (mCons (mVar 2) mNil)))
  (sFor (mIter (mOp dIx (mVar 3) (mC (.int 4)))) (gSet 4)
  (sIf (mAnd (mTru (mCall (lim 1 m_is_for_file) (mCons (mVar 4) mNil))) (mTru (mCall (lim 1 m_is_name_alone) (mCons (mOp dIx (mVar 4) (mC (.int 0))) mNil))))
  (sAsg (mCall (lim 2 m__passed_behind) (mCons (mVar 2) (mCons (mVar 4) mNil))) (gSet 2))
  sNext))))
  (sFrz 1 (sRet (mVar 1))))))
def m_passes_of (ds : List D) : Option D := mDef 5 b_passes_of ds
def b__rising : En → Option Fl :=
  (sRet (mCall dTupOf (mCons (mList (mSortTx (mVar 0))) mNil)))
def m__rising (ds : List D) : Option D := mDef 1 b__rising ds
def b_is_shared_kept : En → Option Fl :=
  (sRet (mAndV (mOp dEq (mOp dIx (mVar 0) (mC (.int 1))) (mC (.str ("shared" : Str)))) (mOp dEq (mOp dIx (mVar 0) (mC (.int 2))) (mC (.str ("keep" : Str))))))
def m_is_shared_kept (ds : List D) : Option D := mDef 1 b_is_shared_kept ds
def b_needs_of : En → Option Fl :=
  (sSeq (sOwn 1 (mLst mNil))
  (sSeq (sOwn 2 (mLst mNil))
  (sSeq (sOwn 3 (mLst mNil))
  (sSeq (sFor (mZip (mCons (mVar 0) (mCons (mCall (lim 1 m_passes_of) (mCons (mVar 0) mNil)) mNil))) (gTupM 2 (gConsM (gSet 4) (gConsM (gSet 5) gNilM)))
  (sSeq (sAsg (mCall (lim 1 m_library_of) (mCons (mOp dIx (mVar 4) (mC (.int 1))) mNil)) (gSet 6))
  (sSeq (sIf (mTest (mOp dIsNot (mVar 6) (mC .none)))
  (sAppend 2 (mVar 6))
  sNext)
  (sFor (mIter (mOp dIx (mVar 4) (mC (.int 4)))) (gSet 7)
  (sIf (mTru (mCall (lim 1 m_is_for_file) (mCons (mVar 7) mNil)))
  (sSeq (sAsg (mOp dIx (mVar 7) (mC (.int 0))) (gSet 8))
  (sSeq (sAli 9 (mAnd (mTru (mCall (lim 1 m_is_shared_kept) (mCons (mVar 7) mNil))) (mTest (mOp (dInX true) (mOp dIx (mVar 8) (mC (.int 0))) (mVar 5)))) 2 1 (mOp dIx (mVar 8) (mC (.int 0))))
  (sAppend 3 (mOp dIx (mVar 8) (mC (.int 3))))))
  sNext)))))
  (sSeq (sFrz 1 (sFrz 2 (sOwn 2 (mLc (mIter (mVar 2)) (gSet 10) (mTest (mOp (dInX true) (mVar 10) (mVar 1))) (mVar 10) [10]))))
  (sSeq (sFrz 3 (sOwn 3 (mLc (mIter (mVar 3)) (gSet 11) (mTest (mOp dIsNot (mVar 11) (mC .none))) (mVar 11) [11])))
  (sFrz 3 (sFrz 2 (sFrz 1 (sRet (mTup (mCons (mCall (lim 1 m__rising) (mCons (mVar 1) mNil)) (mCons (mCall (lim 1 m__rising) (mCons (mVar 2) mNil)) (mCons (mCall (lim 1 m__rising) (mCons (mVar 3) mNil)) mNil))))))))))))))
def m_needs_of (ds : List D) : Option D := mDef 12 b_needs_of ds
def fuel__law_drawn_0 (ρ : En) : Nat := fuelOf 4 ρ
def b__law_drawn : En → Option Fl :=
  (sSeq (sAsg (mOp dMul (mC (.int 7)) (mVar 1)) (gSet 3))
  (sSeq (sIf (mTest (mOp dNe (mVar 0) (mList (mLst mNil))))
  (sSeq (sAsg (mOp dIx (mVar 0) (mOp dMod (mVar 1) (mCall dLen (mCons (mVar 0) mNil)))) (gSet 3))
  (sSeq (sAsg (mOp dFdiv (mVar 1) (mCall dLen (mCons (mVar 0) mNil))) (gSet 4))
  (sSeq (sIf (mAnd (mTest (mOp dGe (mVar 3) (mOp dPow (mC (.int 10)) (mC (.int 18))))) (mTest (mOp dLt (mVar 4) (mC (.int 60)))))
  (sSeq (sAsg (mOp dFdiv (mVar 3) (mOp dPow (mC (.int 10)) (mC (.int 18)))) (gSet 5))
  (sSeq (sWhile fuel__law_drawn_0 (mAnd (mTest (mOp dGt (mVar 5) (mC (.int 0)))) (mTest (mOp dGt (mVar 4) (mC (.int 0)))))
  (sSeq (sAsg (mOp dFdiv (mVar 5) (mC (.int 1000000))) (gSet 5))
  (sAsg (mOp dSub (mVar 4) (mC (.int 1))) (gSet 4))))
  (sIf (mTest (mOp dGt (mVar 5) (mC (.int 0))))
  (sRet (mOp dMod (mOp dMod (mVar 5) (mC (.int 1000000))) (mVar 2)))
  sNext)))
  sNext)
  (sAsg (mOp dAdd (mVar 3) (mOp dMul (mC (.int 6553)) (mOp dFdiv (mVar 1) (mCall dLen (mCons (mVar 0) mNil))))) (gSet 3)))))
  sNext)
  (sSeq (sAsg (mOp dMod (mOp dAdd (mOp dMul (mOp dMod (mVar 3) (mC (.int 2147483563))) (mC (.int 69069))) (mOp dMul (mC (.int 104723)) (mOp dAdd (mVar 1) (mC (.int 1))))) (mC (.int 2147483563))) (gSet 3))
  (sSeq (sAsg (mOp dMod (mOp dAdd (mOp dMul (mVar 3) (mVar 3)) (mOp dFdiv (mVar 3) (mC (.int 3)))) (mC (.int 2147483399))) (gSet 3))
  (sRet (mOp dMod (mOp dFdiv (mOp dMod (mOp dAdd (mOp dMul (mVar 3) (mVar 3)) (mOp dFdiv (mVar 3) (mC (.int 7)))) (mC (.int 2147483647))) (mC (.int 11))) (mVar 2)))))))
def m__law_drawn (ds : List D) : Option D := mDef 6 b__law_drawn ds
def b__law_cards : En → Option Fl :=
  (sSeq (sOwn 3 (mLst mNil))
  (sSeq (sFor (mRange1 (mCons (mCall (lim 3 m__law_drawn) (mCons (mVar 0) (mCons (mVar 1) (mCons (mC (.int 4)) mNil)))) mNil)) (gSet 4)
  (sSeq (sAsg (mOp dIx (mVar 2) (mCall (lim 3 m__law_drawn) (mCons (mVar 0) (mCons (mOp dAdd (mOp dAdd (mVar 1) (mC (.int 1))) (mOp dMul (mC (.int 6)) (mVar 4))) (mCons (mCall dLen (mCons (mVar 2) mNil)) mNil))))) (gSet 5))
  (sSeq (sAsg (mCall (lim 3 m__law_drawn) (mCons (mVar 0) (mCons (mOp dAdd (mOp dAdd (mVar 1) (mC (.int 2))) (mOp dMul (mC (.int 6)) (mVar 4))) (mCons (mC (.int 8)) mNil)))) (gSet 6))
  (sSeq (sAsg (mList (mLst (mCons (mTup (mCons (mC .none) (mCons (mC .none) (mCons (mC .none) mNil)))) (mCons (mTup (mCons (mC (.int 0)) (mCons (mC .none) (mCons (mC .none) mNil)))) (mCons (mTup (mCons (mC .none) (mCons (mC (.str ("mem" : Str))) (mCons (mC .none) mNil)))) (mCons (mTup (mCons (mC .none) (mCons (mC .none) (mCons (mC (.str ("vol" : Str))) mNil)))) mNil)))))) (gSet 7))
  (sSeq (sAsg (mOp dIx (mVar 7) (mIfE (mTest (mOp dLt (mVar 6) (mC (.int 4)))) (mVar 6) (mC (.int 0)))) (gSet 8))
  (sSeq (sAsg (mOp dIx (mList (mLst (mCons (mC (.str ("old" : Str))) (mCons (mC (.str ("shared" : Str))) (mCons (mC (.str ("new" : Str))) (mCons (mC (.str ("more" : Str))) mNil)))))) (mCall (lim 3 m__law_drawn) (mCons (mVar 0) (mCons (mOp dAdd (mOp dAdd (mVar 1) (mC (.int 3))) (mOp dMul (mC (.int 6)) (mVar 4))) (mCons (mC (.int 4)) mNil))))) (gSet 9))
  (sSeq (sAsg (mList (mIfL (mTest (mOp dEq (mVar 8) (mTup (mCons (mC .none) (mCons (mC .none) (mCons (mC .none) mNil)))))) (mLst (mCons (mC (.str ("keep" : Str))) (mCons (mC (.str ("drop" : Str))) (mCons (mC (.str ("pass" : Str))) mNil)))) (mLst (mCons (mC (.str ("keep" : Str))) (mCons (mC (.str ("drop" : Str))) mNil))))) (gSet 10))
  (sSeq (sAsg (mOp dIx (mVar 10) (mCall (lim 3 m__law_drawn) (mCons (mVar 0) (mCons (mOp dAdd (mOp dAdd (mVar 1) (mC (.int 4))) (mOp dMul (mC (.int 6)) (mVar 4))) (mCons (mCall dLen (mCons (mVar 10) mNil)) mNil))))) (gSet 11))
  (sAppend 3 (mTup (mCons (mOp dAdd (mTup (mCons (mVar 5) mNil)) (mVar 8)) (mCons (mVar 9) (mCons (mVar 11) mNil)))))))))))))
  (sSeq (sIf (mTest (mOp dEq (mCall (lim 3 m__law_drawn) (mCons (mVar 0) (mCons (mOp dAdd (mVar 1) (mC (.int 20))) (mCons (mC (.int 4)) mNil)))) (mC (.int 0))))
  (sAppend 3 (mTup (mCons (mC (.str ("data" : Str))) (mCons (mTup (mCons (mTup (mCons (mC (.int 1)) (mCons (mC (.int 2)) mNil))) (mCons (mTup (mCons (mC (.int 3)) mNil)) mNil))) mNil))))
  sNext)
  (sFrz 3 (sRet (mCall dTupOf (mCons (mVar 3) mNil)))))))
def m__law_cards (ds : List D) : Option D := mDef 12 b__law_cards ds
def b__law_again : En → Option Fl :=
  (sTry 1 0 .none (xRet (xThen (lim 1 m_card_line) (xCall 1 m_card_in (mCons (mOp dSplit (mVar 0) (mC (.str (" " : Str)))) mNil)))))
def m__law_again (ds : List D) : Option D := mDef 2 b__law_again ds
def b_law : En → Option Fl :=
  (sSeq (sAsg (mOp dAdd (mCall (lim 3 m__law_cards) (mCons (mVar 0) (mCons (mC (.int 0)) (mCons (mList (mLst (mCons (mC (.str ("a" : Str))) (mCons (mC (.str ("bb" : Str))) (mCons (mC (.str ("lib" : Str))) mNil))))) mNil)))) (mCall (lim 3 m__law_cards) (mCons (mVar 0) (mCons (mC (.int 40)) (mCons (mList (mLst (mCons (mC (.str ("a" : Str))) (mCons (mC (.str ("q" : Str))) mNil)))) mNil))))) (gSet 1))
  (sSeq (sAsg (mList (mLc (mIter (mVar 1)) (gSet 2) (mTest (mOp dEq (mCall dLen (mCons (mVar 2) mNil)) (mC (.int 3)))) (mVar 2) [2])) (gSet 1))
  (sSeq (sAsg (mOp dSub (mC (.int 0)) (mCall (lim 3 m__law_drawn) (mCons (mVar 0) (mCons (mC (.int 99)) (mCons (mC (.int 9)) mNil))))) (gSet 3))
  (sSeq (sAsg (mList (mLc (mIter (mVar 1)) (gSet 2) mYes (mIfE (mTest (mOp dEq (mOp dIx (mOp dIx (mVar 2) (mC (.int 0))) (mC (.int 1))) (mC (.int 0)))) (mOp dAdd (mTup (mCons (mOp dAdd (mTup (mCons (mOp dIx (mOp dIx (mVar 2) (mC (.int 0))) (mC (.int 0))) (mCons (mVar 3) mNil))) (mSlY (mOp dIx (mVar 2) (mC (.int 0))) (mPart (mC (.int 2))) mNoPart)) mNil)) (mSlY (mVar 2) (mPart (mC (.int 1))) mNoPart)) (mVar 2)) [2])) (gSet 1))
  (sSeq (sFor (mIter (mVar 1)) (gSet 2)
  (sSeq (sIf (mOr (mNot (mTru (mCall (lim 1 m_is_file_card) (mCons (mVar 2) mNil)))) (mTest (mOp dNe (mCall (lim 1 m__law_again) (mCons (mCall (lim 1 m_card_line) (mCons (mVar 2) mNil)) mNil)) (mCall (lim 1 m_card_line) (mCons (mVar 2) mNil)))))
  (sRet (mC (.bool false)))
  sNext)
  (sSeq (sIf (mTest (mOp dNe (mCall (limX 1 m_card_in) (mCons (mOp dSplit (mCall (lim 1 m_card_line) (mCons (mVar 2) mNil)) (mC (.str (" " : Str)))) mNil)) (mVar 2)))
  (sRet (mC (.bool false)))
  sNext)
  (sSeq (sIf (mTest (mOp dNe (mList (mLc (mIter (mVar 1)) (gSet 13) (mTest (mOp dNe (mOp dEq (mCall (lim 1 m_card_line) (mCons (mVar 13) mNil)) (mCall (lim 1 m_card_line) (mCons (mVar 2) mNil))) (mOp dEq (mVar 13) (mVar 2)))) (mVar 13) [13])) (mList (mLst mNil))))
  (sRet (mC (.bool false)))
  sNext)
  (sFor (mRange1 (mCons (mC (.int 6)) mNil)) (gSet 4)
  (sSeq (sPar 5 6 (mCall (lim 1 m_card_line) (mCons (mVar 2) mNil)) (mOp dAdd (mC (.int 100)) (mOp dMul (mC (.int 5)) (mVar 4))))
  (sSeq (sPar 7 8 (mCall (lim 3 m__law_drawn) (mCons (mVar 0) (mCons (mVar 6) (mCons (mOp dAdd (mCall dLen (mCons (mVar 5) mNil)) (mC (.int 1))) mNil)))) (mOp dIx (mC (.str ("a- 01keoldnw" : Str))) (mCall (lim 3 m__law_drawn) (mCons (mVar 0) (mCons (mOp dAdd (mVar 6) (mC (.int 1))) (mCons (mC (.int 12)) mNil))))))
  (sSeq (sAsg (mIfE (mTest (mOp dEq (mCall (lim 3 m__law_drawn) (mCons (mVar 0) (mCons (mOp dAdd (mVar 6) (mC (.int 2))) (mCons (mC (.int 3)) mNil)))) (mC (.int 0)))) (mC (.str ("" : Str))) (mVar 8)) (gSet 9))
  (sSeq (sAsg (mOp dAdd (mOp dAdd (mSlY (mVar 5) mNoPart (mPart (mVar 7))) (mVar 9)) (mSlY (mVar 5) (mPart (mOp dAdd (mVar 7) (mCall (lim 3 m__law_drawn) (mCons (mVar 0) (mCons (mOp dAdd (mVar 6) (mC (.int 3))) (mCons (mC (.int 2)) mNil)))))) mNoPart)) (gSet 10))
  (sSeq (sIf (mTest (mOp (dInX true) (mCall (lim 1 m__law_again) (mCons (mVar 10) mNil)) (mTup (mCons (mC .none) (mCons (mVar 10) mNil)))))
  (sRet (mC (.bool false)))
  sNext)
  (sIf (mAnd (mTest (mOp dIsNot (mCall (lim 1 m__law_again) (mCons (mVar 10) mNil)) (mC .none))) (mNot (mTru (mCall (lim 1 m_is_file_card) (mCons (mCall (limX 1 m_card_in) (mCons (mOp dSplit (mVar 10) (mC (.str (" " : Str)))) mNil)) mNil)))))
  (sRet (mC (.bool false)))
  sNext)))))))))))
  (sSeq (sAsg (mList (mSortTx (mList (mLc (mIter (mVar 1)) (gSet 2) mYes (mOp dIx (mOp dIx (mVar 2) (mC (.int 0))) (mC (.int 0))) [2])))) (gSet 11))
  (sSeq (sAsg (mCall (lim 1 m_needs_of) (mCons (mTup (mCons (mTup (mCons (mC (.str ("one" : Str))) (mCons (mTup (mCons (mTup (mCons (mC (.str ("end" : Str))) (mCons (mC (.int 0)) mNil))) mNil)) (mCons (mTup mNil) (mCons (mC .none) (mCons (mCall dTupOf (mCons (mSlY (mVar 1) mNoPart (mPart (mC (.int 6)))) mNil)) mNil)))))) mNil)) mNil)) (gSet 12))
  (sRet (mOrV (mOp dGt (mCall dLen (mCons (mVar 1) mNil)) (mC (.int 6))) (mOp dEq (mList (mCallL dSortT (mCons (mOp dAdd (mOp dIx (mVar 12) (mC (.int 0))) (mOp dIx (mVar 12) (mC (.int 1)))) mNil))) (mVar 11)))))))))))
def m_law (ds : List D) : Option D := mDef 14 b_law ds
/-! ### what the top leaves -/
structure Tx (K : PySem.W.Frag) (w : World) (mg : Str → Option Value) where
  f_is_whole : Addr
  d_is_whole : FuncData
  F_is_whole : Fun K "is_whole" "is_whole" s_is_whole f_is_whole d_is_whole
  b_is_whole : Binds K d_is_whole ["thing", "low", "high"] []
  g_is_whole : mg "is_whole" = some (.ref f_is_whole)
  f_is_name : Addr
  d_is_name : FuncData
  F_is_name : Fun K "is_name" "is_name" s_is_name f_is_name d_is_name
  b_is_name : Binds K d_is_name ["thing"] []
  g_is_name : mg "is_name" = some (.ref f_is_name)
  f_is_file_card : Addr
  d_is_file_card : FuncData
  F_is_file_card : Fun K "is_file_card" "is_file_card" s_is_file_card f_is_file_card d_is_file_card
  b_is_file_card : Binds K d_is_file_card ["thing"] []
  g_is_file_card : mg "is_file_card" = some (.ref f_is_file_card)
  f_is_name_alone : Addr
  d_is_name_alone : FuncData
  F_is_name_alone : Fun K "is_name_alone" "is_name_alone" s_is_name_alone f_is_name_alone d_is_name_alone
  b_is_name_alone : Binds K d_is_name_alone ["reference"] []
  g_is_name_alone : mg "is_name_alone" = some (.ref f_is_name_alone)
  f_is_for_file : Addr
  d_is_for_file : FuncData
  F_is_for_file : Fun K "is_for_file" "is_for_file" s_is_for_file f_is_for_file d_is_for_file
  b_is_for_file : Binds K d_is_for_file ["card"] []
  g_is_for_file : mg "is_for_file" = some (.ref f_is_for_file)
  f_library_of : Addr
  d_library_of : FuncData
  F_library_of : Fun K "library_of" "library_of" s_library_of f_library_of d_library_of
  b_library_of : Binds K d_library_of ["program"] []
  g_library_of : mg "library_of" = some (.ref f_library_of)
  f_card_line : Addr
  d_card_line : FuncData
  F_card_line : Fun K "card_line" "card_line" s_card_line f_card_line d_card_line
  b_card_line : Binds K d_card_line ["card"] []
  g_card_line : mg "card_line" = some (.ref f_card_line)
  f_card_in : Addr
  d_card_in : FuncData
  F_card_in : Fun K "card_in" "card_in" s_card_in f_card_in d_card_in
  b_card_in : Binds K d_card_in ["words"] []
  g_card_in : mg "card_in" = some (.ref f_card_in)
  f_passes_of : Addr
  d_passes_of : FuncData
  F_passes_of : Fun K "passes_of" "passes_of" s_passes_of f_passes_of d_passes_of
  b_passes_of : Binds K d_passes_of ["steps"] []
  g_passes_of : mg "passes_of" = some (.ref f_passes_of)
  f_needs_of : Addr
  d_needs_of : FuncData
  F_needs_of : Fun K "needs_of" "needs_of" s_needs_of f_needs_of d_needs_of
  b_needs_of : Binds K d_needs_of ["steps"] []
  g_needs_of : mg "needs_of" = some (.ref f_needs_of)
  f_is_shared_kept : Addr
  d_is_shared_kept : FuncData
  F_is_shared_kept : Fun K "is_shared_kept" "is_shared_kept" s_is_shared_kept f_is_shared_kept d_is_shared_kept
  b_is_shared_kept : Binds K d_is_shared_kept ["card"] []
  g_is_shared_kept : mg "is_shared_kept" = some (.ref f_is_shared_kept)
  f__is_reference : Addr
  d__is_reference : FuncData
  F__is_reference : Fun K "_is_reference" "_is_reference" s__is_reference f__is_reference d__is_reference
  b__is_reference : Binds K d__is_reference ["thing"] []
  g__is_reference : mg "_is_reference" = some (.ref f__is_reference)
  f__are_texts : Addr
  d__are_texts : FuncData
  F__are_texts : Fun K "_are_texts" "_are_texts" s__are_texts f__are_texts d__are_texts
  b__are_texts : Binds K d__are_texts ["thing"] []
  g__are_texts : mg "_are_texts" = some (.ref f__are_texts)
  f__part_text : Addr
  d__part_text : FuncData
  F__part_text : Fun K "_part_text" "_part_text" s__part_text f__part_text d__part_text
  b__part_text : Binds K d__part_text ["part"] []
  g__part_text : mg "_part_text" = some (.ref f__part_text)
  f__read_part : Addr
  d__read_part : FuncData
  F__read_part : Fun K "_read_part" "_read_part" s__read_part f__read_part d__read_part
  b__read_part : Binds K d__read_part ["word"] []
  g__read_part : mg "_read_part" = some (.ref f__read_part)
  f__read_generation : Addr
  d__read_generation : FuncData
  F__read_generation : Fun K "_read_generation" "_read_generation" s__read_generation f__read_generation d__read_generation
  b__read_generation : Binds K d__read_generation ["word"] []
  g__read_generation : mg "_read_generation" = some (.ref f__read_generation)
  f__passed_behind : Addr
  d__passed_behind : FuncData
  F__passed_behind : Fun K "_passed_behind" "_passed_behind" s__passed_behind f__passed_behind d__passed_behind
  b__passed_behind : Binds K d__passed_behind ["passed", "card"] []
  g__passed_behind : mg "_passed_behind" = some (.ref f__passed_behind)
  f__rising : Addr
  d__rising : FuncData
  F__rising : Fun K "_rising" "_rising" s__rising f__rising d__rising
  b__rising : Binds K d__rising ["names"] []
  g__rising : mg "_rising" = some (.ref f__rising)
  f__law_drawn : Addr
  d__law_drawn : FuncData
  F__law_drawn : Fun K "_law_drawn" "_law_drawn" s__law_drawn f__law_drawn d__law_drawn
  b__law_drawn : Binds K d__law_drawn ["_law_script", "_law_k", "_law_many"] []
  g__law_drawn : mg "_law_drawn" = some (.ref f__law_drawn)
  f__law_cards : Addr
  d__law_cards : FuncData
  F__law_cards : Fun K "_law_cards" "_law_cards" s__law_cards f__law_cards d__law_cards
  b__law_cards : Binds K d__law_cards ["_law_script", "_law_at", "_law_names"] []
  g__law_cards : mg "_law_cards" = some (.ref f__law_cards)
  f__law_again : Addr
  d__law_again : FuncData
  F__law_again : Fun K "_law_again" "_law_again" s__law_again f__law_again d__law_again
  b__law_again : Binds K d__law_again ["_law_line"] []
  g__law_again : mg "_law_again" = some (.ref f__law_again)
  f_law : Addr
  d_law : FuncData
  F_law : Fun K "law" "law" s_law f_law d_law
  b_law : Binds K d_law ["_law_script"] []
  g_law : mg "law" = some (.ref f_law)
  t_MOST_LETTERS : Tok
  c_MOST_LETTERS : mg "MOST_LETTERS" = some (.int (8) t_MOST_LETTERS)
  t_LETTERS : Tok
  c_LETTERS : mg "LETTERS" = some (.str "abcdefghijklmnopqrstuvwxyz" t_LETTERS)
  k_HOWS : Addr
  C_HOWS : ∀ H, Dp K H (.ref k_HOWS) (.tuple [(.str ("old" : Str)), (.str ("shared" : Str)), (.str ("new" : Str)), (.str ("more" : Str))])
  c_HOWS : mg "HOWS" = some (.ref k_HOWS)
  k_THENS : Addr
  C_THENS : ∀ H, Dp K H (.ref k_THENS) (.tuple [(.str ("keep" : Str)), (.str ("drop" : Str)), (.str ("pass" : Str))])
  c_THENS : mg "THENS" = some (.ref k_THENS)
  t_NEXT_GENERATION : Tok
  c_NEXT_GENERATION : mg "NEXT_GENERATION" = some (.int (1) t_NEXT_GENERATION)
  t_MANY_PARTS : Tok
  c_MANY_PARTS : mg "MANY_PARTS" = some (.int (6) t_MANY_PARTS)
  t_LEAST_GENERATION : Tok
  c_LEAST_GENERATION : mg "LEAST_GENERATION" = some (.int (-8) t_LEAST_GENERATION)
  t_NOTHING : Tok
  c_NOTHING : mg "NOTHING" = some (.str "-" t_NOTHING)
  n_isinstance : mg "isinstance" = none
  n_int : mg "int" = none
  n_bool : mg "bool" = none
  n_str : mg "str" = none
  n_len : mg "len" = none
  n_all : mg "all" = none
  n_tuple : mg "tuple" = none
  n_zip : mg "zip" = none
  n_list : mg "list" = none
  n_range : mg "range" = none
  n_sorted : mg "sorted" = none
  n_set : mg "set" = none
  C_NoText : Addr
  g_NoText : mg "NoText" = some (.ref C_NoText)
  x_NoText : PySem.W.excIn K C_NoText [.type "ValueError", .type "Exception", .type "BaseException", .type "object"] "ValueError.__new__" = true
  k_NoText : PySem.W.keepIn K (.ref C_NoText) = true
  b_NoText : PySem.W.subIn K (.ref C_NoText) (.type "BaseException") = some true
  t_NoText : PySem.W.typeIn K (.ref C_NoText) = some (.type "type")
  E_NoText : ExcC K C_NoText
  C_YardError : Addr
  g_YardError : mg "YardError" = some (.ref C_YardError)
  e_NoText_YardError : PySem.W.exmOne K (.ref C_NoText) (.ref C_YardError) = some true
  q_NoText_NoText : PySem.W.kitOne K (.ref C_NoText) (.ref C_NoText) = some true
def Tx.cl {K : PySem.W.Frag} {w : World} {mg : Str → Option Value} (T : Tx K w mg) : Nat → Addr
  | _ => T.C_NoText
section
variable {P : Program} {w : World} {K : PySem.W.Frag} {mg : Str → Option Value} {base : Heap}
theorem ok_is_whole (T : Tx K w mg) : FnOk P w K mg base CX0 1 T.f_is_whole T.d_is_whole ["thing", "low", "high"] (spM K 3 m_is_whole) :=
  def_ok (N := N_is_whole) T.F_is_whole sc_is_whole fun cdv A outer s H E hr => ⟨_,
  (pss_one (ps_ret (pe_and (pe_callB call_isi (by rfl) T.n_isinstance (by decide +kernel) (pa_cons (pv 0) (pa_cons (pe_bltn (v := .ty "int") (by rfl) T.n_int (by decide +kernel) rfl) pa_nil))) (pe_and (pe_not (pe_callB call_isi (by rfl) T.n_isinstance (by decide +kernel) (pa_cons (pv 0) (pa_cons (pe_bltn (v := .ty "bool") (by rfl) T.n_bool (by decide +kernel) rfl) pa_nil)))) (pe_one (pe_chain op_le op_le (pv 1) (pv 0) (pv 2))))))),
  ((st_ret (ev_andV (ev_isi cls_int (ev_var 0)) (ev_andV (ev_notV (ev_isi cls_bool (ev_var 0))) (ev_chain rd_le' rd_le' (ev_var 1) (ev_var 0) (ev_var 2))))) : TSm K _ b_is_whole)⟩
theorem ok_is_name (T : Tx K w mg) : FnOk P w K mg base CX0 1 T.f_is_name T.d_is_name ["thing"] (spM K 1 m_is_name) :=
  def_ok (N := N_is_name) T.F_is_name sc_is_name fun cdv A outer s H E hr => ⟨_,
  (pss_cons (ps_if (PW.pt (pw_or (pt_not (pt_tr (pe_callB call_isi (by rfl) T.n_isinstance (by decide +kernel) (pa_cons (pv 0) (pa_cons (pe_bltn (v := .ty "str") (by rfl) T.n_str (by decide +kernel) rfl) pa_nil))) (fun _ => rfl))) (pw_or1 (pt_not (pt_chain op_le op_le pe_int (pe_callB cr_len (by rfl) T.n_len (by decide +kernel) (pa_cons (pv 0) pa_nil)) (pe_glob (v := .int (8)) (by rfl) T.c_MOST_LETTERS ⟨_, rfl⟩)))))) (pss_one (ps_ret pe_bl)) pss_nil)
  (pss_one (ps_ret (pe_callB (cr_all rfl) (by rfl) T.n_all (by decide +kernel) (pa_cons (pe_lc (own := [("sign", 1)]) (g := gName 1) (tt := tYes) rfl sc_is_name.nd (pi_any (pv 0)) (blkOk_by (N := N_is_name) (sc := defScope s_is_name) (by decide +kernel)) (fun _ _ _ _ _ => (pg_name (i := 1) sc_is_name.nd rfl (.inl rfl))) (fun _ _ _ _ _ => pts_nil) (fun _ _ _ _ _ => (pe_cmpR op_inS (pv 1) (pe_glob (v := .str "abcdefghijklmnopqrstuvwxyz") (by rfl) T.c_LETTERS ⟨_, rfl⟩) (by with_unfolding_all rfl)))) pa_nil))))),
  ((st_seq (st_if (et_or (et_not (et_tru (ev_isi cls_str (ev_var 0)))) (et_not (et_test (ev_chain rd_le' rd_le' ev_int (ev_cb cd_len (ea_cons (ev_var 0) ea_nil)) ev_int))))
  (st_ret ev_bl)
  st_next)
  (st_ret (ev_cb cd_all (ea_cons (ev_list (fl_lc (vs := [1]) (it_any (ev_var 0)) (tg_name 1 (by decide)) et_yes (ev_op rd_inS (ev_var 1) ev_str))) ea_nil)))) : TSm K _ b_is_name)⟩
theorem ok__is_reference (T : Tx K w mg) : FnOk P w K mg base CX0 2 T.f__is_reference T.d__is_reference ["thing"] (spM K 1 m__is_reference) :=
  def_ok (N := N__is_reference) T.F__is_reference sc__is_reference fun cdv A outer s H E hr => ⟨_,
  (pss_cons (ps_if (PW.pt (pw_or (pt_not (pt_tr (pe_callB call_isi (by rfl) T.n_isinstance (by decide +kernel) (pa_cons (pv 0) (pa_cons (pe_bltn (v := .ty "tuple") (by rfl) T.n_tuple (by decide +kernel) rfl) pa_nil))) (fun _ => rfl))) (pw_or1 (pt_cmpR (op_neD hr.units) (pe_callB cr_len (by rfl) T.n_len (by decide +kernel) (pa_cons (pv 0) pa_nil)) pe_int (nomark _))))) (pss_one (ps_ret pe_bl)) pss_nil)
  (pss_cons (ps_asg (pv 0) (pg_or (pg_tup rfl (pgs_cons (pg_name (i := 1) sc__is_reference.nd rfl (.inl rfl)) (pgs_cons (pg_name (i := 2) sc__is_reference.nd rfl (.inl rfl)) (pgs_cons (pg_name (i := 3) sc__is_reference.nd rfl (.inl rfl)) (pgs_cons (pg_name (i := 4) sc__is_reference.nd rfl (.inl rfl)) pgs_nil))))) (pg_lst rfl (pgs_cons (pg_name (i := 1) sc__is_reference.nd rfl (.inl rfl)) (pgs_cons (pg_name (i := 2) sc__is_reference.nd rfl (.inl rfl)) (pgs_cons (pg_name (i := 3) sc__is_reference.nd rfl (.inl rfl)) (pgs_cons (pg_name (i := 4) sc__is_reference.nd rfl (.inl rfl)) pgs_nil)))))))
  (pss_cons (ps_setLc (i := 5) (own := [("part", 6)]) (g := gName 6) (tt := _) rfl sc__is_reference.nd rfl rfl (sw_true rfl rfl rfl (by decide +kernel)) (pi_any (pe_slice sl_any2 (pv 0) (po_some pe_int) po_none)) (blkOk_by (N := N__is_reference) (sc := defScope s__is_reference) (by decide +kernel)) (fun _ _ _ _ _ => (pg_name (i := 6) sc__is_reference.nd rfl (.inl rfl))) (fun _ _ _ _ _ => pts_one (pt_cmpR op_notA (pv 6) pe_non (nomark _))) (fun _ _ _ _ _ => (pv 6)))
  (pss_cons (ps_if (PW.pt (pw_or (pt_not (pt_tr (pe_call (ok_is_name T) (hr.mono (by decide)) (by rfl) T.g_is_name T.F_is_name.kp T.b_is_name .nil pass0 (pa_cons (pv 1) pa_nil)) (fun _ => rfl))) (pw_or1 (pt_cmpR op_gt (pe_callB cr_len (by rfl) T.n_len (by decide +kernel) (pa_cons (pv 5) pa_nil)) pe_int (nomark _))))) (pss_one (ps_ret pe_bl)) pss_nil)
  (pss_cons (ps_if (pt_cmpR op_notA (pv 2) pe_non (nomark _)) (pss_one (ps_ret (pe_call (ok_is_whole T) (hr.mono (by decide)) (by rfl) T.g_is_whole T.F_is_whole.kp T.b_is_whole .nil pass0 (pa_cons (pv 2) (pa_cons (pe_glob (v := .int (-8)) (by rfl) T.c_LEAST_GENERATION ⟨_, rfl⟩) (pa_cons (pe_glob (v := .int (1)) (by rfl) T.c_NEXT_GENERATION ⟨_, rfl⟩) pa_nil)))))) pss_nil)
  (pss_one (ps_ret (pe_callB (cr_all rfl) (by rfl) T.n_all (by decide +kernel) (pa_cons (pe_lc (own := [("part", 6)]) (g := gName 6) (tt := tYes) rfl sc__is_reference.nd (pi_any (pe_tup (pa_cons (pv 3) (pa_cons (pv 4) pa_nil)))) (blkOk_by (N := N__is_reference) (sc := defScope s__is_reference) (by decide +kernel)) (fun _ _ _ _ _ => (pg_name (i := 6) sc__is_reference.nd rfl (.inl rfl))) (fun _ _ _ _ _ => pts_nil) (fun _ _ _ _ _ => (pe_or (pe_cmpR op_isA (pv 6) pe_non (nomark _)) (pe_one (pe_call (ok_is_name T) (hr.mono (by decide)) (by rfl) T.g_is_name T.F_is_name.kp T.b_is_name .nil pass0 (pa_cons (pv 6) pa_nil)))))) pa_nil))))))))),
  ((st_seq (st_if (et_or (et_not (et_tru (ev_isi cls_tuple (ev_var 0)))) (et_test (ev_op rd_ne (ev_cb cd_len (ea_cons (ev_var 0) ea_nil)) ev_int)))
  (st_ret ev_bl)
  st_next)
  (st_seq (st_asg (vs := [1, 2, 3, 4]) (ev_var 0) (tg_any (n := 4) (tgs_cons (tg_name 1 (by decide)) (tgs_cons (tg_name 2 (by decide)) (tgs_cons (tg_name 3 (by decide)) (tgs_cons (tg_name 4 (by decide)) tgs_nil))))))
  (st_seq (st_set 5 (ev_list (fl_lc (vs := [6]) (it_any (ev_slY (ev_var 0) (po_part ev_int) po_no)) (tg_name 6 (by decide)) (et_test (ev_op rd_isnot (ev_var 6) ev_non)) (ev_var 6))))
  (st_seq (st_if (et_or (et_not (et_tru (ev_call' (ea_cons (ev_var 1) ea_nil)))) (et_test (ev_op rd_gt' (ev_cb cd_len (ea_cons (ev_var 5) ea_nil)) ev_int)))
  (st_ret ev_bl)
  st_next)
  (st_seq (st_if (et_test (ev_op rd_isnot (ev_var 2) ev_non))
  (st_ret (ev_call' (ea_cons (ev_var 2) (ea_cons ev_int (ea_cons ev_int ea_nil)))))
  st_next)
  (st_ret (ev_cb cd_all (ea_cons (ev_list (fl_lc (vs := [6]) (it_any (ev_tup (ea_cons (ev_var 3) (ea_cons (ev_var 4) ea_nil)))) (tg_name 6 (by decide)) et_yes (ev_orV (ev_op rd_is (ev_var 6) ev_non) (ev_call' (ea_cons (ev_var 6) ea_nil))))) ea_nil)))))))) : TSm K _ b__is_reference)⟩
theorem ok_is_name_alone (T : Tx K w mg) : FnOk P w K mg base CX0 1 T.f_is_name_alone T.d_is_name_alone ["reference"] (spM K 1 m_is_name_alone) :=
  def_ok (N := N_is_name_alone) T.F_is_name_alone sc_is_name_alone fun cdv A outer s H E hr => ⟨_,
  (pss_one (ps_ret (pe_cmpR (op_eqD hr.units) (pe_slice sl_any2 (pv 0) (po_some pe_int) po_none) (pe_tup (pa_cons pe_non (pa_cons pe_non (pa_cons pe_non pa_nil)))) (nomark _)))),
  ((st_ret (ev_op rd_eq (ev_slY (ev_var 0) (po_part ev_int) po_no) (ev_tup (ea_cons ev_non (ea_cons ev_non (ea_cons ev_non ea_nil)))))) : TSm K _ b_is_name_alone)⟩
theorem ok_is_file_card (T : Tx K w mg) : FnOk P w K mg base CX0 3 T.f_is_file_card T.d_is_file_card ["thing"] (spM K 1 m_is_file_card) :=
  def_ok (N := N_is_file_card) T.F_is_file_card sc_is_file_card fun cdv A outer s H E hr => ⟨_,
  (pss_cons (ps_if (PW.pt (pw_or (pt_not (pt_tr (pe_callB call_isi (by rfl) T.n_isinstance (by decide +kernel) (pa_cons (pv 0) (pa_cons (pe_bltn (v := .ty "tuple") (by rfl) T.n_tuple (by decide +kernel) rfl) pa_nil))) (fun _ => rfl))) (pw_or1 (pt_cmpR (op_neD hr.units) (pe_callB cr_len (by rfl) T.n_len (by decide +kernel) (pa_cons (pv 0) pa_nil)) pe_int (nomark _))))) (pss_one (ps_ret pe_bl)) pss_nil)
  (pss_cons (ps_asg (pv 0) (pg_or (pg_tup rfl (pgs_cons (pg_name (i := 1) sc_is_file_card.nd rfl (.inl rfl)) (pgs_cons (pg_name (i := 2) sc_is_file_card.nd rfl (.inl rfl)) (pgs_cons (pg_name (i := 3) sc_is_file_card.nd rfl (.inl rfl)) pgs_nil)))) (pg_lst rfl (pgs_cons (pg_name (i := 1) sc_is_file_card.nd rfl (.inl rfl)) (pgs_cons (pg_name (i := 2) sc_is_file_card.nd rfl (.inl rfl)) (pgs_cons (pg_name (i := 3) sc_is_file_card.nd rfl (.inl rfl)) pgs_nil))))))
  (pss_cons (ps_if (PW.pt (pw_or (pt_not (pt_tr (pe_call (ok__is_reference T) (hr.mono (by decide)) (by rfl) T.g__is_reference T.F__is_reference.kp T.b__is_reference .nil pass0 (pa_cons (pv 1) pa_nil)) (fun _ => rfl))) (pw_or (pt_cmpR op_notIn_seq (pv 2) (pe_glob (v := .ref T.k_HOWS) (by rfl) T.c_HOWS rfl) (by with_unfolding_all rfl)) (pw_or1 (pt_cmpR op_notIn_seq (pv 3) (pe_glob (v := .ref T.k_THENS) (by rfl) T.c_THENS rfl) (by with_unfolding_all rfl)))))) (pss_one (ps_ret pe_bl)) pss_nil)
  (pss_cons (ps_if (PW.pt (pw_and (pt_cmpR (op_eqD hr.units) (pv 3) pe_str (nomark _)) (pw_and1 (pt_not (pt_tr (pe_call (ok_is_name_alone T) (hr.mono (by decide)) (by rfl) T.g_is_name_alone T.F_is_name_alone.kp T.b_is_name_alone .nil pass0 (pa_cons (pv 1) pa_nil)) (fun _ => rfl)))))) (pss_one (ps_ret pe_bl)) pss_nil)
  (pss_one (ps_ret (pe_or (pe_cmpR (op_neD hr.units) (pe_ix ix_seq (pv 1) pe_int (fun _ _ => rfl)) (pe_glob (v := .int (1)) (by rfl) T.c_NEXT_GENERATION ⟨_, rfl⟩) (nomark _)) (pe_one (pe_cmpR op_in_seq (pv 2) (pe_tup (pa_cons pe_str (pa_cons pe_str pa_nil))) (by with_unfolding_all rfl)))))))))),
  ((st_seq (st_if (et_or (et_not (et_tru (ev_isi cls_tuple (ev_var 0)))) (et_test (ev_op rd_ne (ev_cb cd_len (ea_cons (ev_var 0) ea_nil)) ev_int)))
  (st_ret ev_bl)
  st_next)
  (st_seq (st_asg (vs := [1, 2, 3]) (ev_var 0) (tg_any (n := 3) (tgs_cons (tg_name 1 (by decide)) (tgs_cons (tg_name 2 (by decide)) (tgs_cons (tg_name 3 (by decide)) tgs_nil)))))
  (st_seq (st_if (et_or (et_not (et_tru (ev_call' (ea_cons (ev_var 1) ea_nil)))) (et_or (et_test (ev_op (rd_inX (neg := true)) (ev_var 2) (ev_c T.C_HOWS))) (et_test (ev_op (rd_inX (neg := true)) (ev_var 3) (ev_c T.C_THENS)))))
  (st_ret ev_bl)
  st_next)
  (st_seq (st_if (et_and (et_test (ev_op rd_eq (ev_var 3) ev_str)) (et_not (et_tru (ev_call' (ea_cons (ev_var 1) ea_nil)))))
  (st_ret ev_bl)
  st_next)
  (st_ret (ev_orV (ev_op rd_ne (ev_op rd_ix (ev_var 1) ev_int) ev_int) (ev_op (rd_inX (neg := false)) (ev_var 2) (ev_tup (ea_cons ev_str (ea_cons ev_str ea_nil)))))))))) : TSm K _ b_is_file_card)⟩
theorem ok_is_for_file (T : Tx K w mg) : FnOk P w K mg base CX0 1 T.f_is_for_file T.d_is_for_file ["card"] (spM K 1 m_is_for_file) :=
  def_ok (N := N_is_for_file) T.F_is_for_file sc_is_for_file fun cdv A outer s H E hr => ⟨_,
  (pss_one (ps_ret (pe_cmpR (op_neD hr.units) (pe_ix ix_seq (pv 0) pe_int (fun _ _ => rfl)) pe_str (nomark _)))),
  ((st_ret (ev_op rd_ne (ev_op rd_ix (ev_var 0) ev_int) ev_str)) : TSm K _ b_is_for_file)⟩
theorem ok_library_of (T : Tx K w mg) : FnOk P w K mg base CX0 1 T.f_library_of T.d_library_of ["program"] (spM K 1 m_library_of) :=
  def_ok (N := N_library_of) T.F_library_of sc_library_of fun cdv A outer s H E hr => ⟨_,
  (pss_one (ps_ret (pe_ifExp (pt_tr (pe_callB call_isi (by rfl) T.n_isinstance (by decide +kernel) (pa_cons (pe_ix ix_seq (pv 0) pe_int (fun _ _ => rfl)) (pa_cons (pe_bltn (v := .ty "str") (by rfl) T.n_str (by decide +kernel) rfl) pa_nil))) (fun _ => rfl)) (pe_ix ix_seq (pv 0) pe_int (fun _ _ => rfl)) pe_non))),
  ((st_ret (ev_if (et_tru (ev_isi cls_str (ev_op rd_ix (ev_var 0) ev_int))) (ev_op rd_ix (ev_var 0) ev_int) ev_non)) : TSm K _ b_library_of)⟩
theorem ok__part_text (T : Tx K w mg) : FnOk P w K mg base CX0 1 T.f__part_text T.d__part_text ["part"] (spM K 1 m__part_text) :=
  def_ok (N := N__part_text) T.F__part_text sc__part_text fun cdv A outer s H E hr => ⟨_,
  (pss_one (ps_ret (pe_ifExp (pt_cmpR op_isA (pv 0) pe_non (nomark _)) (pe_glob (v := .str "-") (by rfl) T.c_NOTHING ⟨_, rfl⟩) (pe_callTy cr_strA (by rfl) T.n_str (by decide +kernel) (pa_cons (pv 0) pa_nil))))),
  ((st_ret (ev_if (et_test (ev_op rd_is (ev_var 0) ev_non)) ev_str (ev_cb cd_strA (ea_cons (ev_var 0) ea_nil)))) : TSm K _ b__part_text)⟩
theorem ok_card_line (T : Tx K w mg) : FnOk P w K mg base CX0 2 T.f_card_line T.d_card_line ["card"] (spM K 1 m_card_line) :=
  def_ok (N := N_card_line) T.F_card_line sc_card_line fun cdv A outer s H E hr => ⟨_,
  (pss_cons (ps_asg (pv 0) (pg_or (pg_tup rfl (pgs_cons (pg_name (i := 1) sc_card_line.nd rfl (.inl rfl)) (pgs_cons (pg_name (i := 2) sc_card_line.nd rfl (.inl rfl)) (pgs_cons (pg_name (i := 3) sc_card_line.nd rfl (.inl rfl)) pgs_nil)))) (pg_lst rfl (pgs_cons (pg_name (i := 1) sc_card_line.nd rfl (.inl rfl)) (pgs_cons (pg_name (i := 2) sc_card_line.nd rfl (.inl rfl)) (pgs_cons (pg_name (i := 3) sc_card_line.nd rfl (.inl rfl)) pgs_nil))))))
  (pss_one (ps_ret (pe_bm PySem.F.plainAttrs_str PySem.F.slot_str_join PySem.F.type_str_join mt_join pe_str (pa_cons (pe_lc (own := [("part", 4)]) (g := gName 4) (tt := tYes) rfl sc_card_line.nd (pi_any (pe_tup (StX.pa_star (pv 1) (pa_cons (pv 2) (pa_cons (pv 3) pa_nil))))) (blkOk_by (N := N_card_line) (sc := defScope s_card_line) (by decide +kernel)) (fun _ _ _ _ _ => (pg_name (i := 4) sc_card_line.nd rfl (.inl rfl))) (fun _ _ _ _ _ => pts_nil) (fun _ _ _ _ _ => (pe_call (ok__part_text T) (hr.mono (by decide)) (by rfl) T.g__part_text T.F__part_text.kp T.b__part_text .nil pass0 (pa_cons (pv 4) pa_nil)))) pa_nil))))),
  ((st_seq (st_asg (vs := [1, 2, 3]) (ev_var 0) (tg_any (n := 3) (tgs_cons (tg_name 1 (by decide)) (tgs_cons (tg_name 2 (by decide)) (tgs_cons (tg_name 3 (by decide)) tgs_nil)))))
  (st_ret (ev_join ev_str (ev_list (fl_lc (vs := [4]) (it_any (ev_tup (ea_star (ev_var 1) (ea_cons (ev_var 2) (ea_cons (ev_var 3) ea_nil))))) (tg_name 4 (by decide)) et_yes (ev_call' (ea_cons (ev_var 4) ea_nil))))))) : TSm K _ b_card_line)⟩
theorem ok__are_texts (T : Tx K w mg) : FnOk P w K mg base CX0 1 T.f__are_texts T.d__are_texts ["thing"] (spM K 1 m__are_texts) :=
  def_ok (N := N__are_texts) T.F__are_texts sc__are_texts fun cdv A outer s H E hr => ⟨_,
  (pss_one (ps_ret (pe_and (pe_callB call_isi (by rfl) T.n_isinstance (by decide +kernel) (pa_cons (pv 0) (pa_cons (pe_bltn (v := .ty "list") (by rfl) T.n_list (by decide +kernel) rfl) pa_nil))) (pe_one (pe_callB (cr_all rfl) (by rfl) T.n_all (by decide +kernel) (pa_cons (pe_lc (own := [("part", 1)]) (g := gName 1) (tt := tYes) rfl sc__are_texts.nd (pi_any (pv 0)) (blkOk_by (N := N__are_texts) (sc := defScope s__are_texts) (by decide +kernel)) (fun _ _ _ _ _ => (pg_name (i := 1) sc__are_texts.nd rfl (.inl rfl))) (fun _ _ _ _ _ => pts_nil) (fun _ _ _ _ _ => (pe_callB call_isi (by rfl) T.n_isinstance (by decide +kernel) (pa_cons (pv 1) (pa_cons (pe_bltn (v := .ty "str") (by rfl) T.n_str (by decide +kernel) rfl) pa_nil))))) pa_nil)))))),
  ((st_ret (ev_andV (ev_isi cls_list (ev_var 0)) (ev_cb cd_all (ea_cons (ev_list (fl_lc (vs := [1]) (it_any (ev_var 0)) (tg_name 1 (by decide)) et_yes (ev_isi cls_str (ev_var 1)))) ea_nil)))) : TSm K _ b__are_texts)⟩
theorem ok__read_part (T : Tx K w mg) : FnOk P w K mg base CX0 1 T.f__read_part T.d__read_part ["word"] (spM K 1 m__read_part) :=
  def_ok (N := N__read_part) T.F__read_part sc__read_part fun cdv A outer s H E hr => ⟨_,
  (pss_one (ps_ret (pe_ifExp (pt_cmpR (op_eqD hr.units) (pv 0) (pe_glob (v := .str "-") (by rfl) T.c_NOTHING ⟨_, rfl⟩) (nomark _)) pe_non (pv 0)))),
  ((st_ret (ev_if (et_test (ev_op rd_eq (ev_var 0) ev_str)) ev_non (ev_var 0))) : TSm K _ b__read_part)⟩
theorem ok__read_generation (T : Tx K w mg) : FnOk P w K mg base CX0 2 T.f__read_generation T.d__read_generation ["word"] (spM K 1 m__read_generation) :=
  def_ok (N := N__read_generation) T.F__read_generation sc__read_generation fun cdv A outer s H E hr => ⟨_,
  (pss_cons (ps_for PassesOwn.never rfl (pi_range2 (by rfl) T.n_range (pa_cons (pe_glob (v := .int (-8)) (by rfl) T.c_LEAST_GENERATION ⟨_, rfl⟩) (pa_cons (pe_op op_addA (pe_glob (v := .int (1)) (by rfl) T.c_NEXT_GENERATION ⟨_, rfl⟩) pe_int) pa_nil))) (pg_name (i := 1) sc__read_generation.nd rfl (.inl rfl)) (pss_one (ps_if (pt_cmpR (op_eqD hr.units) (pv 0) (pe_callTy cr_strA (by rfl) T.n_str (by decide +kernel) (pa_cons (pv 1) pa_nil)) (nomark _)) (pss_one (ps_ret (pv 1))) pss_nil)))
  (pss_one (ps_ret (pe_call (ok__read_part T) (hr.mono (by decide)) (by rfl) T.g__read_part T.F__read_part.kp T.b__read_part .nil pass0 (pa_cons (pv 0) pa_nil))))),
  ((st_seq (st_for (vs := [1]) (it_range2' (ea_cons ev_int (ea_cons (ev_op rd_add ev_int ev_int) ea_nil))) (tg_name 1 (by decide))
  (st_if (et_test (ev_op rd_eq (ev_var 0) (ev_cb cd_strA (ea_cons (ev_var 1) ea_nil))))
  (st_ret (ev_var 1))
  st_next))
  (st_ret (ev_call' (ea_cons (ev_var 0) ea_nil)))) : TSm K _ b__read_generation)⟩
theorem ok_card_in (T : Tx K w mg) : FnOk P w K mg base (L2.CX P w) 4 T.f_card_in T.d_card_in ["words"] (spX K T.cl 1 m_card_in) :=
  def_okX (cl := T.cl) (N := N_card_in) T.F_card_in sc_card_in fun cdv A outer s H E hr => ⟨_,
  (pss_cons (ps_if (PW.pt (pw_or (pt_not (pt_tr (pe_call (ok__are_texts T) (hr.mono (by decide)) (by rfl) T.g__are_texts T.F__are_texts.kp T.b__are_texts .nil pass0 (pa_cons (pv 0) pa_nil)) (fun _ => rfl))) (pw_or1 (pt_cmpR (op_neD hr.units) (pe_callB cr_len (by rfl) T.n_len (by decide +kernel) (pa_cons (pv 0) pa_nil)) (pe_glob (v := .int (6)) (by rfl) T.c_MANY_PARTS ⟨_, rfl⟩) (nomark _))))) (pss_one (ps_raise rfl (takes_of rfl rfl rfl rfl) (pmk_own PySem.F.excBase_ValueError T.x_NoText T.g_NoText T.k_NoText (raises_own T.b_NoText T.t_NoText) (by rfl)))) pss_nil)
  (pss_cons (ps_asg (pv 0) (pg_or (pg_tup rfl (pgs_cons (pg_name (i := 1) sc_card_in.nd rfl (.inl rfl)) (pgs_cons (pg_name (i := 2) sc_card_in.nd rfl (.inl rfl)) (pgs_cons (pg_name (i := 3) sc_card_in.nd rfl (.inl rfl)) (pgs_cons (pg_name (i := 4) sc_card_in.nd rfl (.inl rfl)) (pgs_cons (pg_name (i := 5) sc_card_in.nd rfl (.inl rfl)) (pgs_cons (pg_name (i := 6) sc_card_in.nd rfl (.inl rfl)) pgs_nil))))))) (pg_lst rfl (pgs_cons (pg_name (i := 1) sc_card_in.nd rfl (.inl rfl)) (pgs_cons (pg_name (i := 2) sc_card_in.nd rfl (.inl rfl)) (pgs_cons (pg_name (i := 3) sc_card_in.nd rfl (.inl rfl)) (pgs_cons (pg_name (i := 4) sc_card_in.nd rfl (.inl rfl)) (pgs_cons (pg_name (i := 5) sc_card_in.nd rfl (.inl rfl)) (pgs_cons (pg_name (i := 6) sc_card_in.nd rfl (.inl rfl)) pgs_nil)))))))))
  (pss_cons (ps_set (i := 7) sc_card_in.nd rfl (.inl rfl) (pe_tup (pa_cons (pv 1) (pa_cons (pe_call (ok__read_generation T) (hr.mono (by decide)) (by rfl) T.g__read_generation T.F__read_generation.kp T.b__read_generation .nil pass0 (pa_cons (pv 2) pa_nil)) (pa_cons (pe_call (ok__read_part T) (hr.mono (by decide)) (by rfl) T.g__read_part T.F__read_part.kp T.b__read_part .nil pass0 (pa_cons (pv 3) pa_nil)) (pa_cons (pe_call (ok__read_part T) (hr.mono (by decide)) (by rfl) T.g__read_part T.F__read_part.kp T.b__read_part .nil pass0 (pa_cons (pv 4) pa_nil)) pa_nil))))))
  (pss_cons (ps_set (i := 8) sc_card_in.nd rfl (.inl rfl) (pe_tup (pa_cons (pv 7) (pa_cons (pv 5) (pa_cons (pv 6) pa_nil)))))
  (pss_cons (ps_if (pt_not (pt_tr (pe_call (ok_is_file_card T) (hr.mono (by decide)) (by rfl) T.g_is_file_card T.F_is_file_card.kp T.b_is_file_card .nil pass0 (pa_cons (pv 8) pa_nil)) (fun _ => rfl))) (pss_one (ps_raise rfl (takes_of rfl rfl rfl rfl) (pmk_own PySem.F.excBase_ValueError T.x_NoText T.g_NoText T.k_NoText (raises_own T.b_NoText T.t_NoText) (by rfl)))) pss_nil)
  (pss_one (ps_ret (pv 8)))))))),
  ((sx_seq (sx_if (et_or (et_not (et_tru (ev_call' (ea_cons (ev_var 0) ea_nil)))) (et_test (ev_op rd_ne (ev_cb cd_len (ea_cons (ev_var 0) ea_nil)) ev_int)))
  (sx_raise 0)
  (sx_lift st_next))
  (sx_seq (sx_lift (st_asg (vs := [1, 2, 3, 4, 5, 6]) (ev_var 0) (tg_any (n := 6) (tgs_cons (tg_name 1 (by decide)) (tgs_cons (tg_name 2 (by decide)) (tgs_cons (tg_name 3 (by decide)) (tgs_cons (tg_name 4 (by decide)) (tgs_cons (tg_name 5 (by decide)) (tgs_cons (tg_name 6 (by decide)) tgs_nil)))))))))
  (sx_seq (sx_lift (st_set 7 (ev_tup (ea_cons (ev_var 1) (ea_cons (ev_call' (ea_cons (ev_var 2) ea_nil)) (ea_cons (ev_call' (ea_cons (ev_var 3) ea_nil)) (ea_cons (ev_call' (ea_cons (ev_var 4) ea_nil)) ea_nil)))))))
  (sx_seq (sx_lift (st_set 8 (ev_tup (ea_cons (ev_var 7) (ea_cons (ev_var 5) (ea_cons (ev_var 6) ea_nil))))))
  (sx_seq (sx_if (et_not (et_tru (ev_call' (ea_cons (ev_var 8) ea_nil))))
  (sx_raise 0)
  (sx_lift st_next))
  (sx_lift (st_ret (ev_var 8)))))))) : SX K T.cl _ b_card_in)⟩
theorem ok__passed_behind (T : Tx K w mg) : FnOk P w K mg base CX0 1 T.f__passed_behind T.d__passed_behind ["passed", "card"] (spM K 2 m__passed_behind) :=
  def_ok (N := N__passed_behind) T.F__passed_behind sc__passed_behind fun cdv A outer s H E hr => ⟨_,
  (pss_cons (ps_set (i := 2) sc__passed_behind.nd rfl (.inr rfl) (pe_ix ix_seq (pe_ix ix_seq (pv 1) pe_int (fun _ _ => rfl)) pe_int (fun _ _ => rfl)))
  (pss_cons (ps_if (pt_cmpR (op_neD hr.units) (pe_ix ix_seq (pv 1) pe_int (fun _ _ => rfl)) pe_str (nomark _)) (pss_one (ps_ret (pe_lc (own := [("other", 3)]) (g := gName 3) (tt := _) rfl sc__passed_behind.nd (pi_any (pv 0)) (blkOk_by (N := N__passed_behind) (sc := defScope s__passed_behind) (by decide +kernel)) (fun _ _ _ _ _ => (pg_name (i := 3) sc__passed_behind.nd rfl (.inl rfl))) (fun _ _ _ _ _ => pts_one (pt_cmpR (op_neD hr.units) (pv 3) (pv 2) (nomark _))) (fun _ _ _ _ _ => (pv 3))))) pss_nil)
  (pss_one (ps_ret (pe_ifExp (pt_cmpR op_in_seq (pv 2) (pv 0) (by with_unfolding_all rfl)) (pv 0) (pe_lst (StX.pa_star (pv 0) (pa_cons (pv 2) pa_nil)))))))),
  ((st_seq (st_set 2 (ev_op rd_ix (ev_op rd_ix (ev_var 1) ev_int) ev_int))
  (st_seq (st_if (et_test (ev_op rd_ne (ev_op rd_ix (ev_var 1) ev_int) ev_str))
  (st_ret (ev_list (fl_lc (vs := [3]) (it_any (ev_var 0)) (tg_name 3 (by decide)) (et_test (ev_op rd_ne (ev_var 3) (ev_var 2))) (ev_var 3))))
  st_next)
  (st_ret (ev_if (et_test (ev_op (rd_inX (neg := false)) (ev_var 2) (ev_var 0))) (ev_var 0) (ev_list (fl_lst (ea_star (ev_var 0) (ea_cons (ev_var 2) ea_nil)))))))) : TSm K _ b__passed_behind)⟩
theorem ok_passes_of (T : Tx K w mg) : FnOk P w K mg base CX0 2 T.f_passes_of T.d_passes_of ["steps"] (spM K 1 m_passes_of) :=
  def_ok (N := N_passes_of) T.F_passes_of sc_passes_of fun cdv A outer s H E hr => ⟨_,
  (pss_cons (ps_set (i := 1) sc_passes_of.nd rfl (.inl rfl) (pe_lst pa_nil))
  (pss_cons (ps_set (i := 2) sc_passes_of.nd rfl (.inl rfl) (pe_lst pa_nil))
  (pss_cons (ps_for PassesOwn.never rfl (pi_any (pv 0)) (pg_name (i := 3) sc_passes_of.nd rfl (.inl rfl)) (pss_cons (ps_expr (pe_bm PySem.F.plainAttrs_list PySem.F.slot_list_append PySem.F.type_list_append mt_append (pv 1) (pa_cons (pe_callTy cr_tupOf (by rfl) T.n_tuple (by decide +kernel) (pa_cons (pv 2) pa_nil)) pa_nil)))
  (pss_one (ps_for PassesOwn.never rfl (pi_any (pe_ix ix_seq (pv 3) pe_int (fun _ _ => rfl))) (pg_name (i := 4) sc_passes_of.nd rfl (.inl rfl)) (pss_one (ps_if (PW.pt (pw_and (pt_tr (pe_call (ok_is_for_file T) (hr.mono (by decide)) (by rfl) T.g_is_for_file T.F_is_for_file.kp T.b_is_for_file .nil pass0 (pa_cons (pv 4) pa_nil)) (fun _ => rfl)) (pw_and1 (pt_tr (pe_call (ok_is_name_alone T) (hr.mono (by decide)) (by rfl) T.g_is_name_alone T.F_is_name_alone.kp T.b_is_name_alone .nil pass0 (pa_cons (pe_ix ix_seq (pv 4) pe_int (fun _ _ => rfl)) pa_nil)) (fun _ => rfl))))) (pss_one (ps_set (i := 2) sc_passes_of.nd rfl (.inl rfl) (pe_call (ok__passed_behind T) (hr.mono (by decide)) (by rfl) T.g__passed_behind T.F__passed_behind.kp T.b__passed_behind .nil pass0 (pa_cons (pv 2) (pa_cons (pv 4) pa_nil))))) pss_nil))))))
  (pss_one (ps_ret (pv 1)))))),
  ((st_seq (st_own 1 (fl_lst ea_nil))
  (st_seq (st_set 2 (ev_list (fl_lst ea_nil)))
  (st_seq (st_for (vs := [3]) (it_any (ev_var 0)) (tg_name 3 (by decide))
  (st_seq (st_append (i := 1) (ev_cb cd_tupOf (ea_cons (ev_var 2) ea_nil)))
  (st_for (vs := [4]) (it_any (ev_op rd_ix (ev_var 3) ev_int)) (tg_name 4 (by decide))
  (st_if (et_and (et_tru (ev_call' (ea_cons (ev_var 4) ea_nil))) (et_tru (ev_call' (ea_cons (ev_op rd_ix (ev_var 4) ev_int) ea_nil))))
  (st_set 2 (ev_call' (ea_cons (ev_var 2) (ea_cons (ev_var 4) ea_nil))))
  st_next))))
  (st_frz 1 (st_ret (ev_var 1)))))) : TSm K _ b_passes_of)⟩
theorem ok__rising (T : Tx K w mg) : FnOk P w K mg base CX0 1 T.f__rising T.d__rising ["names"] (spM K 1 m__rising) :=
  def_ok (N := N__rising) T.F__rising sc__rising fun cdv A outer s H E hr => ⟨_,
  (pss_one (ps_ret (pe_callTy cr_tupOf (by rfl) T.n_tuple (by decide +kernel) (pa_cons (pe_sortTx (by rfl) T.n_sorted (by rfl) T.n_set (pv 0)) pa_nil)))),
  ((st_ret (ev_cb cd_tupOf (ea_cons (ev_list (fl_sortTx (ev_var 0))) ea_nil))) : TSm K _ b__rising)⟩
theorem ok_is_shared_kept (T : Tx K w mg) : FnOk P w K mg base CX0 1 T.f_is_shared_kept T.d_is_shared_kept ["card"] (spM K 1 m_is_shared_kept) :=
  def_ok (N := N_is_shared_kept) T.F_is_shared_kept sc_is_shared_kept fun cdv A outer s H E hr => ⟨_,
  (pss_one (ps_ret (pe_and (pe_cmpR (op_eqD hr.units) (pe_ix ix_seq (pv 0) pe_int (fun _ _ => rfl)) pe_str (nomark _)) (pe_one (pe_cmpR (op_eqD hr.units) (pe_ix ix_seq (pv 0) pe_int (fun _ _ => rfl)) pe_str (nomark _)))))),
  ((st_ret (ev_andV (ev_op rd_eq (ev_op rd_ix (ev_var 0) ev_int) ev_str) (ev_op rd_eq (ev_op rd_ix (ev_var 0) ev_int) ev_str))) : TSm K _ b_is_shared_kept)⟩
theorem ok_needs_of (T : Tx K w mg) : FnOk P w K mg base CX0 3 T.f_needs_of T.d_needs_of ["steps"] (spM K 1 m_needs_of) :=
  def_ok (N := N_needs_of) T.F_needs_of sc_needs_of fun cdv A outer s H E hr => ⟨_,
  (pss_cons (ps_set (i := 1) sc_needs_of.nd rfl (.inr rfl) (pe_lst pa_nil))
  (pss_cons (ps_set (i := 2) sc_needs_of.nd rfl (.inl rfl) (pe_lst pa_nil))
  (pss_cons (ps_set (i := 3) sc_needs_of.nd rfl (.inl rfl) (pe_lst pa_nil))
  (pss_cons (ps_for PassesOwn.never rfl (pi_zipX (by rfl) T.n_zip (pa_cons (pv 0) (pa_cons (pe_call (ok_passes_of T) (hr.mono (by decide)) (by rfl) T.g_passes_of T.F_passes_of.kp T.b_passes_of .nil pass0 (pa_cons (pv 0) pa_nil)) pa_nil))) (pg_tup rfl (pgs_cons (pg_name (i := 4) sc_needs_of.nd rfl (.inl rfl)) (pgs_cons (pg_name (i := 5) sc_needs_of.nd rfl (.inl rfl)) pgs_nil))) (pss_cons (ps_set (i := 6) sc_needs_of.nd rfl (.inl rfl) (pe_call (ok_library_of T) (hr.mono (by decide)) (by rfl) T.g_library_of T.F_library_of.kp T.b_library_of .nil pass0 (pa_cons (pe_ix ix_seq (pv 4) pe_int (fun _ _ => rfl)) pa_nil)))
  (pss_cons (ps_if (pt_cmpR op_notA (pv 6) pe_non (nomark _)) (pss_one (ps_expr (pe_bm PySem.F.plainAttrs_list PySem.F.slot_list_append PySem.F.type_list_append mt_append (pv 2) (pa_cons (pv 6) pa_nil)))) pss_nil)
  (pss_one (ps_for PassesOwn.never rfl (pi_any (pe_ix ix_seq (pv 4) pe_int (fun _ _ => rfl))) (pg_name (i := 7) sc_needs_of.nd rfl (.inl rfl)) (pss_one (ps_if (pt_tr (pe_call (ok_is_for_file T) (hr.mono (by decide)) (by rfl) T.g_is_for_file T.F_is_for_file.kp T.b_is_for_file .nil pass0 (pa_cons (pv 7) pa_nil)) (fun _ => rfl)) (pss_cons (ps_set (i := 8) sc_needs_of.nd rfl (.inl rfl) (pe_ix ix_seq (pv 7) pe_int (fun _ _ => rfl)))
  (pss_cons (ps_set (i := 9) sc_needs_of.nd rfl (.inl rfl) (pe_ifExp (PW.pt (pw_and (pt_tr (pe_call (ok_is_shared_kept T) (hr.mono (by decide)) (by rfl) T.g_is_shared_kept T.F_is_shared_kept.kp T.b_is_shared_kept .nil pass0 (pa_cons (pv 7) pa_nil)) (fun _ => rfl)) (pw_and1 (pt_cmpR op_notIn_seq (pe_ix ix_seq (pv 8) pe_int (fun _ _ => rfl)) (pv 5) (by with_unfolding_all rfl))))) (pv 2) (pv 1))) (pss_cons (ps_expr (pe_bm PySem.F.plainAttrs_list PySem.F.slot_list_append PySem.F.type_list_append mt_append (pv 9) (pa_cons (pe_ix ix_seq (pv 8) pe_int (fun _ _ => rfl)) pa_nil)))
  (pss_one (ps_expr (pe_bm PySem.F.plainAttrs_list PySem.F.slot_list_append PySem.F.type_list_append mt_append (pv 3) (pa_cons (pe_ix ix_seq (pv 8) pe_int (fun _ _ => rfl)) pa_nil))))))) pss_nil)))))))
  (pss_cons (ps_setLc (i := 2) (own := [("name", 10)]) (g := gName 10) (tt := _) rfl sc_needs_of.nd rfl rfl (sw_true rfl rfl rfl (by decide +kernel)) (pi_any (pv 2)) (blkOk_by (N := N_needs_of) (sc := defScope s_needs_of) (by decide +kernel)) (fun _ _ _ _ _ => (pg_name (i := 10) sc_needs_of.nd rfl (.inl rfl))) (fun _ _ _ _ _ => pts_one (pt_cmpR op_notIn_seq (pv 10) (pv 1) (by with_unfolding_all rfl))) (fun _ _ _ _ _ => (pv 10)))
  (pss_cons (ps_setLc (i := 3) (own := [("volume", 11)]) (g := gName 11) (tt := _) rfl sc_needs_of.nd rfl rfl (sw_true rfl rfl rfl (by decide +kernel)) (pi_any (pv 3)) (blkOk_by (N := N_needs_of) (sc := defScope s_needs_of) (by decide +kernel)) (fun _ _ _ _ _ => (pg_name (i := 11) sc_needs_of.nd rfl (.inl rfl))) (fun _ _ _ _ _ => pts_one (pt_cmpR op_notA (pv 11) pe_non (nomark _))) (fun _ _ _ _ _ => (pv 11)))
  (pss_one (ps_ret (pe_tup (pa_cons (pe_call (ok__rising T) (hr.mono (by decide)) (by rfl) T.g__rising T.F__rising.kp T.b__rising .nil pass0 (pa_cons (pv 1) pa_nil)) (pa_cons (pe_call (ok__rising T) (hr.mono (by decide)) (by rfl) T.g__rising T.F__rising.kp T.b__rising .nil pass0 (pa_cons (pv 2) pa_nil)) (pa_cons (pe_call (ok__rising T) (hr.mono (by decide)) (by rfl) T.g__rising T.F__rising.kp T.b__rising .nil pass0 (pa_cons (pv 3) pa_nil)) pa_nil)))))))))))),
  ((st_seq (st_own 1 (fl_lst ea_nil))
  (st_seq (st_own 2 (fl_lst ea_nil))
  (st_seq (st_own 3 (fl_lst ea_nil))
  (st_seq (st_for (vs := [4, 5]) (it_zipX (ea_cons (ev_var 0) (ea_cons (ev_call' (ea_cons (ev_var 0) ea_nil)) ea_nil))) (tg_tup (tgs_cons (tg_name 4 (by decide)) (tgs_cons (tg_name 5 (by decide)) tgs_nil)))
  (st_seq (st_set 6 (ev_call' (ea_cons (ev_op rd_ix (ev_var 4) ev_int) ea_nil)))
  (st_seq (st_if (et_test (ev_op rd_isnot (ev_var 6) ev_non))
  (st_append (i := 2) (ev_var 6))
  st_next)
  (st_for (vs := [7]) (it_any (ev_op rd_ix (ev_var 4) ev_int)) (tg_name 7 (by decide))
  (st_if (et_tru (ev_call' (ea_cons (ev_var 7) ea_nil)))
  (st_seq (st_set 8 (ev_op rd_ix (ev_var 7) ev_int))
  (st_assoc (st_seq (st_ali (w := 9) (i := 2) (j := 1) (et_and (et_tru (ev_call' (ea_cons (ev_var 7) ea_nil))) (et_test (ev_op (rd_inX (neg := true)) (ev_op rd_ix (ev_var 8) ev_int) (ev_var 5)))) (ev_op rd_ix (ev_var 8) ev_int))
  (st_append (i := 3) (ev_op rd_ix (ev_var 8) ev_int)))))
  st_next)))))
  (st_seq (st_frz 1 (st_frz 2 (st_own 2 (fl_lc (vs := [10]) (it_any (ev_var 2)) (tg_name 10 (by decide)) (et_test (ev_op (rd_inX (neg := true)) (ev_var 10) (ev_var 1))) (ev_var 10)))))
  (st_seq (st_frz 3 (st_own 3 (fl_lc (vs := [11]) (it_any (ev_var 3)) (tg_name 11 (by decide)) (et_test (ev_op rd_isnot (ev_var 11) ev_non)) (ev_var 11))))
  (st_frz 3 (st_frz 2 (st_frz 1 (st_ret (ev_tup (ea_cons (ev_call' (ea_cons (ev_var 1) ea_nil)) (ea_cons (ev_call' (ea_cons (ev_var 2) ea_nil)) (ea_cons (ev_call' (ea_cons (ev_var 3) ea_nil)) ea_nil)))))))))))))) : TSm K _ b_needs_of)⟩
theorem ok__law_drawn (T : Tx K w mg) : FnOk P w K mg base CX0 1 T.f__law_drawn T.d__law_drawn ["_law_script", "_law_k", "_law_many"] (spM K 3 m__law_drawn) :=
  def_ok (N := N__law_drawn) T.F__law_drawn sc__law_drawn fun cdv A outer s H E hr => ⟨_,
  (pss_cons (ps_set (i := 3) sc__law_drawn.nd rfl (.inl rfl) (pe_op op_mulA pe_int (pv 1)))
  (pss_cons (ps_if (pt_cmpR (op_neD hr.units) (pv 0) (pe_lst pa_nil) (nomark _)) (pss_cons (ps_set (i := 3) sc__law_drawn.nd rfl (.inl rfl) (pe_ix ix_seq (pv 0) (pe_op op_mod (pv 1) (pe_callB cr_len (by rfl) T.n_len (by decide +kernel) (pa_cons (pv 0) pa_nil))) (fun _ _ => rfl)))
  (pss_cons (ps_set (i := 4) sc__law_drawn.nd rfl (.inl rfl) (pe_op op_fdivW (pv 1) (pe_callB cr_len (by rfl) T.n_len (by decide +kernel) (pa_cons (pv 0) pa_nil))))
  (pss_cons (ps_if (PW.pt (pw_and (pt_cmpR op_ge (pv 3) (pe_op op_pow pe_int pe_int) (nomark _)) (pw_and1 (pt_cmpR op_lt (pv 4) pe_int (nomark _))))) (pss_cons (ps_set (i := 5) sc__law_drawn.nd rfl (.inl rfl) (pe_op op_fdivW (pv 3) (pe_op op_pow pe_int pe_int)))
  (pss_cons (ps_while PassesOwn.never (PW.pt (pw_and (pt_cmpR op_gt (pv 5) pe_int (nomark _)) (pw_and1 (pt_cmpR op_gt (pv 4) pe_int (nomark _))))) (pss_cons (ps_set (i := 5) sc__law_drawn.nd rfl (.inl rfl) (pe_op op_fdivW (pv 5) pe_int))
  (pss_one (ps_set (i := 4) sc__law_drawn.nd rfl (.inl rfl) (pe_op op_sub (pv 4) pe_int)))))
  (pss_one (ps_if (pt_cmpR op_gt (pv 5) pe_int (nomark _)) (pss_one (ps_ret (pe_op op_mod (pe_op op_mod (pv 5) pe_int) (pv 2)))) pss_nil)))) pss_nil)
  (pss_one (ps_set (i := 3) sc__law_drawn.nd rfl (.inl rfl) (pe_op op_addA (pv 3) (pe_op op_mulA pe_int (pe_op op_fdivW (pv 1) (pe_callB cr_len (by rfl) T.n_len (by decide +kernel) (pa_cons (pv 0) pa_nil)))))))))) pss_nil)
  (pss_cons (ps_set (i := 3) sc__law_drawn.nd rfl (.inl rfl) (pe_op op_mod (pe_op op_addA (pe_op op_mulA (pe_op op_mod (pv 3) pe_int) pe_int) (pe_op op_mulA pe_int (pe_op op_addA (pv 1) pe_int))) pe_int))
  (pss_cons (ps_set (i := 3) sc__law_drawn.nd rfl (.inl rfl) (pe_op op_mod (pe_op op_addA (pe_op op_mulA (pv 3) (pv 3)) (pe_op op_fdivW (pv 3) pe_int)) pe_int))
  (pss_one (ps_ret (pe_op op_mod (pe_op op_fdivW (pe_op op_mod (pe_op op_addA (pe_op op_mulA (pv 3) (pv 3)) (pe_op op_fdivW (pv 3) pe_int)) pe_int) pe_int) (pv 2)))))))),
  ((st_seq (st_set 3 (ev_op rd_mul ev_int (ev_var 1)))
  (st_seq (st_if (et_test (ev_op rd_ne (ev_var 0) (ev_list (fl_lst ea_nil))))
  (st_seq (st_set 3 (ev_op rd_ix (ev_var 0) (ev_op rd_mod (ev_var 1) (ev_cb cd_len (ea_cons (ev_var 0) ea_nil)))))
  (st_seq (st_set 4 (ev_op rd_fdiv (ev_var 1) (ev_cb cd_len (ea_cons (ev_var 0) ea_nil))))
  (st_seq (st_if (et_and (et_test (ev_op rd_ge' (ev_var 3) (ev_op rd_pow ev_int ev_int))) (et_test (ev_op rd_lt' (ev_var 4) ev_int)))
  (st_seq (st_set 5 (ev_op rd_fdiv (ev_var 3) (ev_op rd_pow ev_int ev_int)))
  (st_seq (st_while fuel__law_drawn_0 (et_and (et_test (ev_op rd_gt' (ev_var 5) ev_int)) (et_test (ev_op rd_gt' (ev_var 4) ev_int)))
  (st_seq (st_set 5 (ev_op rd_fdiv (ev_var 5) ev_int))
  (st_set 4 (ev_op rd_sub (ev_var 4) ev_int))))
  (st_if (et_test (ev_op rd_gt' (ev_var 5) ev_int))
  (st_ret (ev_op rd_mod (ev_op rd_mod (ev_var 5) ev_int) (ev_var 2)))
  st_next)))
  st_next)
  (st_set 3 (ev_op rd_add (ev_var 3) (ev_op rd_mul ev_int (ev_op rd_fdiv (ev_var 1) (ev_cb cd_len (ea_cons (ev_var 0) ea_nil)))))))))
  st_next)
  (st_seq (st_set 3 (ev_op rd_mod (ev_op rd_add (ev_op rd_mul (ev_op rd_mod (ev_var 3) ev_int) ev_int) (ev_op rd_mul ev_int (ev_op rd_add (ev_var 1) ev_int))) ev_int))
  (st_seq (st_set 3 (ev_op rd_mod (ev_op rd_add (ev_op rd_mul (ev_var 3) (ev_var 3)) (ev_op rd_fdiv (ev_var 3) ev_int)) ev_int))
  (st_ret (ev_op rd_mod (ev_op rd_fdiv (ev_op rd_mod (ev_op rd_add (ev_op rd_mul (ev_var 3) (ev_var 3)) (ev_op rd_fdiv (ev_var 3) ev_int)) ev_int) ev_int) (ev_var 2))))))) : TSm K _ b__law_drawn)⟩
theorem ok__law_cards (T : Tx K w mg) : FnOk P w K mg base CX0 2 T.f__law_cards T.d__law_cards ["_law_script", "_law_at", "_law_names"] (spM K 3 m__law_cards) :=
  def_ok (N := N__law_cards) T.F__law_cards sc__law_cards fun cdv A outer s H E hr => ⟨_,
  (pss_cons (ps_set (i := 3) sc__law_cards.nd rfl (.inl rfl) (pe_lst pa_nil))
  (pss_cons (ps_for PassesOwn.never rfl (pi_range1 (by rfl) T.n_range (pa_cons (pe_call (ok__law_drawn T) (hr.mono (by decide)) (by rfl) T.g__law_drawn T.F__law_drawn.kp T.b__law_drawn .nil pass0 (pa_cons (pv 0) (pa_cons (pv 1) (pa_cons pe_int pa_nil)))) pa_nil)) (pg_name (i := 4) sc__law_cards.nd rfl (.inl rfl)) (pss_cons (ps_set (i := 5) sc__law_cards.nd rfl (.inl rfl) (pe_ix ix_seq (pv 2) (pe_call (ok__law_drawn T) (hr.mono (by decide)) (by rfl) T.g__law_drawn T.F__law_drawn.kp T.b__law_drawn .nil pass0 (pa_cons (pv 0) (pa_cons (pe_op op_addA (pe_op op_addA (pv 1) pe_int) (pe_op op_mulA pe_int (pv 4))) (pa_cons (pe_callB cr_len (by rfl) T.n_len (by decide +kernel) (pa_cons (pv 2) pa_nil)) pa_nil)))) (fun _ _ => rfl)))
  (pss_cons (ps_set (i := 6) sc__law_cards.nd rfl (.inl rfl) (pe_call (ok__law_drawn T) (hr.mono (by decide)) (by rfl) T.g__law_drawn T.F__law_drawn.kp T.b__law_drawn .nil pass0 (pa_cons (pv 0) (pa_cons (pe_op op_addA (pe_op op_addA (pv 1) pe_int) (pe_op op_mulA pe_int (pv 4))) (pa_cons pe_int pa_nil)))))
  (pss_cons (ps_set (i := 7) sc__law_cards.nd rfl (.inl rfl) (pe_lst (pa_cons (pe_tup (pa_cons pe_non (pa_cons pe_non (pa_cons pe_non pa_nil)))) (pa_cons (pe_tup (pa_cons pe_int (pa_cons pe_non (pa_cons pe_non pa_nil)))) (pa_cons (pe_tup (pa_cons pe_non (pa_cons pe_str (pa_cons pe_non pa_nil)))) (pa_cons (pe_tup (pa_cons pe_non (pa_cons pe_non (pa_cons pe_str pa_nil)))) pa_nil))))))
  (pss_cons (ps_set (i := 8) sc__law_cards.nd rfl (.inl rfl) (pe_ix ix_seq (pv 7) (pe_ifExp (pt_cmpR op_lt (pv 6) pe_int (nomark _)) (pv 6) pe_int) (fun _ _ => rfl)))
  (pss_cons (ps_set (i := 9) sc__law_cards.nd rfl (.inl rfl) (pe_ix ix_seq (pe_lst (pa_cons pe_str (pa_cons pe_str (pa_cons pe_str (pa_cons pe_str pa_nil))))) (pe_call (ok__law_drawn T) (hr.mono (by decide)) (by rfl) T.g__law_drawn T.F__law_drawn.kp T.b__law_drawn .nil pass0 (pa_cons (pv 0) (pa_cons (pe_op op_addA (pe_op op_addA (pv 1) pe_int) (pe_op op_mulA pe_int (pv 4))) (pa_cons pe_int pa_nil)))) (fun _ _ => rfl)))
  (pss_cons (ps_set (i := 10) sc__law_cards.nd rfl (.inl rfl) (pe_ifExp (pt_cmpR (op_eqD hr.units) (pv 8) (pe_tup (pa_cons pe_non (pa_cons pe_non (pa_cons pe_non pa_nil)))) (nomark _)) (pe_lst (pa_cons pe_str (pa_cons pe_str (pa_cons pe_str pa_nil)))) (pe_lst (pa_cons pe_str (pa_cons pe_str pa_nil)))))
  (pss_cons (ps_set (i := 11) sc__law_cards.nd rfl (.inl rfl) (pe_ix ix_seq (pv 10) (pe_call (ok__law_drawn T) (hr.mono (by decide)) (by rfl) T.g__law_drawn T.F__law_drawn.kp T.b__law_drawn .nil pass0 (pa_cons (pv 0) (pa_cons (pe_op op_addA (pe_op op_addA (pv 1) pe_int) (pe_op op_mulA pe_int (pv 4))) (pa_cons (pe_callB cr_len (by rfl) T.n_len (by decide +kernel) (pa_cons (pv 10) pa_nil)) pa_nil)))) (fun _ _ => rfl)))
  (pss_one (ps_expr (pe_bm PySem.F.plainAttrs_list PySem.F.slot_list_append PySem.F.type_list_append mt_append (pv 3) (pa_cons (pe_tup (pa_cons (pe_op op_addA (pe_tup (pa_cons (pv 5) pa_nil)) (pv 8)) (pa_cons (pv 9) (pa_cons (pv 11) pa_nil)))) pa_nil))))))))))))
  (pss_cons (ps_if (pt_cmpR (op_eqD hr.units) (pe_call (ok__law_drawn T) (hr.mono (by decide)) (by rfl) T.g__law_drawn T.F__law_drawn.kp T.b__law_drawn .nil pass0 (pa_cons (pv 0) (pa_cons (pe_op op_addA (pv 1) pe_int) (pa_cons pe_int pa_nil)))) pe_int (nomark _)) (pss_one (ps_expr (pe_bm PySem.F.plainAttrs_list PySem.F.slot_list_append PySem.F.type_list_append mt_append (pv 3) (pa_cons (pe_tup (pa_cons pe_str (pa_cons (pe_tup (pa_cons (pe_tup (pa_cons pe_int (pa_cons pe_int pa_nil))) (pa_cons (pe_tup (pa_cons pe_int pa_nil)) pa_nil))) pa_nil))) pa_nil)))) pss_nil)
  (pss_one (ps_ret (pe_callTy cr_tupOf (by rfl) T.n_tuple (by decide +kernel) (pa_cons (pv 3) pa_nil))))))),
  ((st_seq (st_own 3 (fl_lst ea_nil))
  (st_seq (st_for (vs := [4]) (it_range1' (ea_cons (ev_call' (ea_cons (ev_var 0) (ea_cons (ev_var 1) (ea_cons ev_int ea_nil)))) ea_nil)) (tg_name 4 (by decide))
  (st_seq (st_set 5 (ev_op rd_ix (ev_var 2) (ev_call' (ea_cons (ev_var 0) (ea_cons (ev_op rd_add (ev_op rd_add (ev_var 1) ev_int) (ev_op rd_mul ev_int (ev_var 4))) (ea_cons (ev_cb cd_len (ea_cons (ev_var 2) ea_nil)) ea_nil))))))
  (st_seq (st_set 6 (ev_call' (ea_cons (ev_var 0) (ea_cons (ev_op rd_add (ev_op rd_add (ev_var 1) ev_int) (ev_op rd_mul ev_int (ev_var 4))) (ea_cons ev_int ea_nil)))))
  (st_seq (st_set 7 (ev_list (fl_lst (ea_cons (ev_tup (ea_cons ev_non (ea_cons ev_non (ea_cons ev_non ea_nil)))) (ea_cons (ev_tup (ea_cons ev_int (ea_cons ev_non (ea_cons ev_non ea_nil)))) (ea_cons (ev_tup (ea_cons ev_non (ea_cons ev_str (ea_cons ev_non ea_nil)))) (ea_cons (ev_tup (ea_cons ev_non (ea_cons ev_non (ea_cons ev_str ea_nil)))) ea_nil)))))))
  (st_seq (st_set 8 (ev_op rd_ix (ev_var 7) (ev_if (et_test (ev_op rd_lt' (ev_var 6) ev_int)) (ev_var 6) ev_int)))
  (st_seq (st_set 9 (ev_op rd_ix (ev_list (fl_lst (ea_cons ev_str (ea_cons ev_str (ea_cons ev_str (ea_cons ev_str ea_nil)))))) (ev_call' (ea_cons (ev_var 0) (ea_cons (ev_op rd_add (ev_op rd_add (ev_var 1) ev_int) (ev_op rd_mul ev_int (ev_var 4))) (ea_cons ev_int ea_nil))))))
  (st_seq (st_set 10 (ev_list (fl_if (et_test (ev_op rd_eq (ev_var 8) (ev_tup (ea_cons ev_non (ea_cons ev_non (ea_cons ev_non ea_nil)))))) (fl_lst (ea_cons ev_str (ea_cons ev_str (ea_cons ev_str ea_nil)))) (fl_lst (ea_cons ev_str (ea_cons ev_str ea_nil))))))
  (st_seq (st_set 11 (ev_op rd_ix (ev_var 10) (ev_call' (ea_cons (ev_var 0) (ea_cons (ev_op rd_add (ev_op rd_add (ev_var 1) ev_int) (ev_op rd_mul ev_int (ev_var 4))) (ea_cons (ev_cb cd_len (ea_cons (ev_var 10) ea_nil)) ea_nil))))))
  (st_append (i := 3) (ev_tup (ea_cons (ev_op rd_add (ev_tup (ea_cons (ev_var 5) ea_nil)) (ev_var 8)) (ea_cons (ev_var 9) (ea_cons (ev_var 11) ea_nil)))))))))))))
  (st_seq (st_if (et_test (ev_op rd_eq (ev_call' (ea_cons (ev_var 0) (ea_cons (ev_op rd_add (ev_var 1) ev_int) (ea_cons ev_int ea_nil)))) ev_int))
  (st_append (i := 3) (ev_tup (ea_cons ev_str (ea_cons (ev_tup (ea_cons (ev_tup (ea_cons ev_int (ea_cons ev_int ea_nil))) (ea_cons (ev_tup (ea_cons ev_int ea_nil)) ea_nil))) ea_nil))))
  st_next)
  (st_frz 3 (st_ret (ev_cb cd_tupOf (ea_cons (ev_var 3) ea_nil))))))) : TSm K _ b__law_cards)⟩
theorem ok__law_again (T : Tx K w mg) : FnOk P w K mg base CX0 5 T.f__law_again T.d__law_again ["_law_line"] (spM K 1 m__law_again) :=
  def_ok (N := N__law_again) T.F__law_again sc__law_again fun cdv A outer s H E hr => ⟨_,
  (pss_one (ps_try_as (i := 1) (Wout := fun _ _ _ _ => False) rfl rfl sc__law_again.nd rfl rfl ⟨rfl, by decide, .inl T.g_YardError⟩ takes0 (fun W pn xe tk _ => (pss_one (ps_ret (pe_call (ok_card_line T) (hr.mono (by decide)) (by rfl) T.g_card_line T.F_card_line.kp T.b_card_line .nil pass0 (pa_cons (pe_callS (ok_card_in T) (hr.mono (by decide)) (by rfl) T.g_card_in T.F_card_in.kp T.b_card_in (fun σ => passAt tk σ) (pa_cons (pe_bm PySem.F.plainAttrs_str PySem.F.slot_str_split PySem.F.type_str_split mt_split (pv 0) (pa_cons pe_str pa_nil)) pa_nil)) pa_nil))))) (fun a oe cls d pn hz hf => pss_cls (C := T.C_NoText) hz fun hz => pss_one (ps_ret (pe_ifExp (pt_tr (pe_callB (call_isE T.E_NoText hz hf) (by rfl) T.n_isinstance (by decide +kernel) (pa_cons (pv 1) (pa_cons (pe_glob (v := .ref T.C_NoText) (by rfl) T.g_NoText rfl) pa_nil))) (fun _ => rfl)) pe_non pe_str))))),
  ((st_try (cl := T.cl) (c0 := 0) (C := T.C_YardError) (d0 := .none) (sx_ret (ex_then (ex_call (ea_cons (ev_split (ev_var 0) ev_str) ea_nil)))) T.e_NoText_YardError (sb_if (sbt_tru (sb_is T.q_NoText_NoText)) sb_c sb_c) (fun _ => .non)) : TSm K _ b__law_again)⟩
theorem ok_law (T : Tx K w mg) : FnOk P w K mg base CX0 6 T.f_law T.d_law ["_law_script"] (spM K 1 m_law) :=
  def_ok (N := N_law) T.F_law sc_law fun cdv A outer s H E hr => ⟨_,
  (pss_cons (ps_set (i := 1) sc_law.nd rfl (.inl rfl) (pe_op op_addA (pe_call (ok__law_cards T) (hr.mono (by decide)) (by rfl) T.g__law_cards T.F__law_cards.kp T.b__law_cards .nil pass0 (pa_cons (pv 0) (pa_cons pe_int (pa_cons (pe_lst (pa_cons pe_str (pa_cons pe_str (pa_cons pe_str pa_nil)))) pa_nil)))) (pe_call (ok__law_cards T) (hr.mono (by decide)) (by rfl) T.g__law_cards T.F__law_cards.kp T.b__law_cards .nil pass0 (pa_cons (pv 0) (pa_cons pe_int (pa_cons (pe_lst (pa_cons pe_str (pa_cons pe_str pa_nil))) pa_nil))))))
  (pss_cons (ps_setLc (i := 1) (own := [("_law_card", 2)]) (g := gName 2) (tt := _) rfl sc_law.nd rfl rfl (sw_true rfl rfl rfl (by decide +kernel)) (pi_any (pv 1)) (blkOk_by (N := N_law) (sc := defScope s_law) (by decide +kernel)) (fun _ _ _ _ _ => (pg_name (i := 2) sc_law.nd rfl (.inl rfl))) (fun _ _ _ _ _ => pts_one (pt_cmpR (op_eqD hr.units) (pe_callB cr_len (by rfl) T.n_len (by decide +kernel) (pa_cons (pv 2) pa_nil)) pe_int (nomark _))) (fun _ _ _ _ _ => (pv 2)))
  (pss_cons (ps_set (i := 3) sc_law.nd rfl (.inr rfl) (pe_op op_sub pe_int (pe_call (ok__law_drawn T) (hr.mono (by decide)) (by rfl) T.g__law_drawn T.F__law_drawn.kp T.b__law_drawn .nil pass0 (pa_cons (pv 0) (pa_cons pe_int (pa_cons pe_int pa_nil))))))
  (pss_cons (ps_setLc (i := 1) (own := [("_law_card", 2)]) (g := gName 2) (tt := tYes) rfl sc_law.nd rfl rfl (sw_true rfl rfl rfl (by decide +kernel)) (pi_any (pv 1)) (blkOk_by (N := N_law) (sc := defScope s_law) (by decide +kernel)) (fun _ _ _ _ _ => (pg_name (i := 2) sc_law.nd rfl (.inl rfl))) (fun _ _ _ _ _ => pts_nil) (fun _ _ _ _ _ => (pe_ifExp (pt_cmpR (op_eqD hr.units) (pe_ix ix_seq (pe_ix ix_seq (pv 2) pe_int (fun _ _ => rfl)) pe_int (fun _ _ => rfl)) pe_int (nomark _)) (pe_op op_addA (pe_tup (pa_cons (pe_op op_addA (pe_tup (pa_cons (pe_ix ix_seq (pe_ix ix_seq (pv 2) pe_int (fun _ _ => rfl)) pe_int (fun _ _ => rfl)) (pa_cons (pv 3) pa_nil))) (pe_slice sl_any2 (pe_ix ix_seq (pv 2) pe_int (fun _ _ => rfl)) (po_some pe_int) po_none)) pa_nil)) (pe_slice sl_any2 (pv 2) (po_some pe_int) po_none)) (pv 2))))
  (pss_cons (ps_for PassesOwn.never rfl (pi_any (pv 1)) (pg_name (i := 2) sc_law.nd rfl (.inr rfl)) (pss_cons (ps_if (PW.pt (pw_or (pt_not (pt_tr (pe_call (ok_is_file_card T) (hr.mono (by decide)) (by rfl) T.g_is_file_card T.F_is_file_card.kp T.b_is_file_card .nil pass0 (pa_cons (pv 2) pa_nil)) (fun _ => rfl))) (pw_or1 (pt_cmpR (op_neD hr.units) (pe_call (ok__law_again T) (hr.mono (by decide)) (by rfl) T.g__law_again T.F__law_again.kp T.b__law_again .nil pass0 (pa_cons (pe_call (ok_card_line T) (hr.mono (by decide)) (by rfl) T.g_card_line T.F_card_line.kp T.b_card_line .nil pass0 (pa_cons (pv 2) pa_nil)) pa_nil)) (pe_call (ok_card_line T) (hr.mono (by decide)) (by rfl) T.g_card_line T.F_card_line.kp T.b_card_line .nil pass0 (pa_cons (pv 2) pa_nil)) (nomark _))))) (pss_one (ps_ret pe_bl)) pss_nil)
  (pss_cons (ps_if (pt_cmpR (op_neD hr.units) (pe_callS (E := fun _ _ _ _ => False) (ok_card_in T) (hr.mono (by decide)) (by rfl) T.g_card_in T.F_card_in.kp T.b_card_in (fun σ => passNo σ) (pa_cons (pe_bm PySem.F.plainAttrs_str PySem.F.slot_str_split PySem.F.type_str_split mt_split (pe_call (ok_card_line T) (hr.mono (by decide)) (by rfl) T.g_card_line T.F_card_line.kp T.b_card_line .nil pass0 (pa_cons (pv 2) pa_nil)) (pa_cons pe_str pa_nil)) pa_nil)) (pv 2) (nomark _)) (pss_one (ps_ret pe_bl)) pss_nil)
  (pss_cons (ps_if (pt_cmpR (op_neD hr.units) (pe_lc (own := [("_law_other", 13)]) (g := gName 13) (tt := _) rfl sc_law.nd (pi_any (pv 1)) (blkOk_by (N := N_law) (sc := defScope s_law) (by decide +kernel)) (fun _ _ _ _ _ => (pg_name (i := 13) sc_law.nd rfl (.inl rfl))) (fun _ _ _ _ _ => pts_one (pt_cmpR (op_neD hr.units) (pe_cmpR (op_eqD hr.units) (pe_call (ok_card_line T) (hr.mono (by decide)) (by rfl) T.g_card_line T.F_card_line.kp T.b_card_line .nil pass0 (pa_cons (pv 13) pa_nil)) (pe_call (ok_card_line T) (hr.mono (by decide)) (by rfl) T.g_card_line T.F_card_line.kp T.b_card_line .nil pass0 (pa_cons (pv 2) pa_nil)) (nomark _)) (pe_cmpR (op_eqD hr.units) (pv 13) (pv 2) (nomark _)) (nomark _))) (fun _ _ _ _ _ => (pv 13))) (pe_lst pa_nil) (nomark _)) (pss_one (ps_ret pe_bl)) pss_nil)
  (pss_one (ps_for PassesOwn.never rfl (pi_range1 (by rfl) T.n_range (pa_cons pe_int pa_nil)) (pg_name (i := 4) sc_law.nd rfl (.inl rfl)) (pss_cons (ps_par (i := 5) (j := 6) rfl sc_law.nd rfl rfl (by decide) rfl rfl (pa_cons (pe_call (ok_card_line T) (hr.mono (by decide)) (by rfl) T.g_card_line T.F_card_line.kp T.b_card_line .nil pass0 (pa_cons (pv 2) pa_nil)) (pa_cons (pe_op op_addA pe_int (pe_op op_mulA pe_int (pv 4))) pa_nil)) (by rfl))
  (pss_cons (ps_par (i := 7) (j := 8) rfl sc_law.nd rfl rfl (by decide) rfl rfl (pa_cons (pe_call (ok__law_drawn T) (hr.mono (by decide)) (by rfl) T.g__law_drawn T.F__law_drawn.kp T.b__law_drawn .nil pass0 (pa_cons (pv 0) (pa_cons (pv 6) (pa_cons (pe_op op_addA (pe_callB cr_len (by rfl) T.n_len (by decide +kernel) (pa_cons (pv 5) pa_nil)) pe_int) pa_nil)))) (pa_cons (pe_ix ix_seq pe_str (pe_call (ok__law_drawn T) (hr.mono (by decide)) (by rfl) T.g__law_drawn T.F__law_drawn.kp T.b__law_drawn .nil pass0 (pa_cons (pv 0) (pa_cons (pe_op op_addA (pv 6) pe_int) (pa_cons pe_int pa_nil)))) (fun _ _ => rfl)) pa_nil)) (by rfl))
  (pss_cons (ps_set (i := 9) sc_law.nd rfl (.inl rfl) (pe_ifExp (pt_cmpR (op_eqD hr.units) (pe_call (ok__law_drawn T) (hr.mono (by decide)) (by rfl) T.g__law_drawn T.F__law_drawn.kp T.b__law_drawn .nil pass0 (pa_cons (pv 0) (pa_cons (pe_op op_addA (pv 6) pe_int) (pa_cons pe_int pa_nil)))) pe_int (nomark _)) pe_str (pv 8)))
  (pss_cons (ps_set (i := 10) sc_law.nd rfl (.inl rfl) (pe_op op_addA (pe_op op_addA (pe_slice sl_any2 (pv 5) po_none (po_some (pv 7))) (pv 9)) (pe_slice sl_any2 (pv 5) (po_some (pe_op op_addA (pv 7) (pe_call (ok__law_drawn T) (hr.mono (by decide)) (by rfl) T.g__law_drawn T.F__law_drawn.kp T.b__law_drawn .nil pass0 (pa_cons (pv 0) (pa_cons (pe_op op_addA (pv 6) pe_int) (pa_cons pe_int pa_nil)))))) po_none)))
  (pss_cons (ps_if (pt_cmpR op_notIn_seq (pe_call (ok__law_again T) (hr.mono (by decide)) (by rfl) T.g__law_again T.F__law_again.kp T.b__law_again .nil pass0 (pa_cons (pv 10) pa_nil)) (pe_tup (pa_cons pe_non (pa_cons (pv 10) pa_nil))) (by with_unfolding_all rfl)) (pss_one (ps_ret pe_bl)) pss_nil)
  (pss_one (ps_if (PW.pt (pw_and (pt_cmpR op_notA (pe_call (ok__law_again T) (hr.mono (by decide)) (by rfl) T.g__law_again T.F__law_again.kp T.b__law_again .nil pass0 (pa_cons (pv 10) pa_nil)) pe_non (nomark _)) (pw_and1 (pt_not (pt_tr (pe_call (ok_is_file_card T) (hr.mono (by decide)) (by rfl) T.g_is_file_card T.F_is_file_card.kp T.b_is_file_card .nil pass0 (pa_cons (pe_callS (E := fun _ _ _ _ => False) (ok_card_in T) (hr.mono (by decide)) (by rfl) T.g_card_in T.F_card_in.kp T.b_card_in (fun σ => passNo σ) (pa_cons (pe_bm PySem.F.plainAttrs_str PySem.F.slot_str_split PySem.F.type_str_split mt_split (pv 10) (pa_cons pe_str pa_nil)) pa_nil)) pa_nil)) (fun _ => rfl)))))) (pss_one (ps_ret pe_bl)) pss_nil)))))))))))))
  (pss_cons (ps_set (i := 11) sc_law.nd rfl (.inl rfl) (pe_sortTx (by rfl) T.n_sorted (by rfl) T.n_set (pe_lc (own := [("_law_card", 2)]) (g := gName 2) (tt := tYes) rfl sc_law.nd (pi_any (pv 1)) (blkOk_by (N := N_law) (sc := defScope s_law) (by decide +kernel)) (fun _ _ _ _ _ => (pg_name (i := 2) sc_law.nd rfl (.inl rfl))) (fun _ _ _ _ _ => pts_nil) (fun _ _ _ _ _ => (pe_ix ix_seq (pe_ix ix_seq (pv 2) pe_int (fun _ _ => rfl)) pe_int (fun _ _ => rfl))))))
  (pss_cons (ps_set (i := 12) sc_law.nd rfl (.inl rfl) (pe_call (ok_needs_of T) (hr.mono (by decide)) (by rfl) T.g_needs_of T.F_needs_of.kp T.b_needs_of .nil pass0 (pa_cons (pe_tup (pa_cons (pe_tup (pa_cons pe_str (pa_cons (pe_tup (pa_cons (pe_tup (pa_cons pe_str (pa_cons pe_int pa_nil))) pa_nil)) (pa_cons (pe_tup pa_nil) (pa_cons pe_non (pa_cons (pe_callTy cr_tupOf (by rfl) T.n_tuple (by decide +kernel) (pa_cons (pe_slice sl_any2 (pv 1) po_none (po_some pe_int)) pa_nil)) pa_nil)))))) pa_nil)) pa_nil)))
  (pss_one (ps_ret (pe_or (pe_cmpR op_gt (pe_callB cr_len (by rfl) T.n_len (by decide +kernel) (pa_cons (pv 1) pa_nil)) pe_int (nomark _)) (pe_one (pe_cmpR (op_eqD hr.units) (pe_callB cr_sortT' (by rfl) T.n_sorted (by decide +kernel) (pa_cons (pe_op op_addA (pe_ix ix_seq (pv 12) pe_int (fun _ _ => rfl)) (pe_ix ix_seq (pv 12) pe_int (fun _ _ => rfl))) pa_nil)) (pv 11) (nomark _))))))))))))),
  ((st_seq (st_set 1 (ev_op rd_add (ev_call' (ea_cons (ev_var 0) (ea_cons ev_int (ea_cons (ev_list (fl_lst (ea_cons ev_str (ea_cons ev_str (ea_cons ev_str ea_nil))))) ea_nil)))) (ev_call' (ea_cons (ev_var 0) (ea_cons ev_int (ea_cons (ev_list (fl_lst (ea_cons ev_str (ea_cons ev_str ea_nil)))) ea_nil))))))
  (st_seq (st_set 1 (ev_list (fl_lc (vs := [2]) (it_any (ev_var 1)) (tg_name 2 (by decide)) (et_test (ev_op rd_eq (ev_cb cd_len (ea_cons (ev_var 2) ea_nil)) ev_int)) (ev_var 2))))
  (st_seq (st_set 3 (ev_op rd_sub ev_int (ev_call' (ea_cons (ev_var 0) (ea_cons ev_int (ea_cons ev_int ea_nil))))))
  (st_seq (st_set 1 (ev_list (fl_lc (vs := [2]) (it_any (ev_var 1)) (tg_name 2 (by decide)) et_yes (ev_if (et_test (ev_op rd_eq (ev_op rd_ix (ev_op rd_ix (ev_var 2) ev_int) ev_int) ev_int)) (ev_op rd_add (ev_tup (ea_cons (ev_op rd_add (ev_tup (ea_cons (ev_op rd_ix (ev_op rd_ix (ev_var 2) ev_int) ev_int) (ea_cons (ev_var 3) ea_nil))) (ev_slY (ev_op rd_ix (ev_var 2) ev_int) (po_part ev_int) po_no)) ea_nil)) (ev_slY (ev_var 2) (po_part ev_int) po_no)) (ev_var 2)))))
  (st_seq (st_for (vs := [2]) (it_any (ev_var 1)) (tg_name 2 (by decide))
  (st_seq (st_if (et_or (et_not (et_tru (ev_call' (ea_cons (ev_var 2) ea_nil)))) (et_test (ev_op rd_ne (ev_call' (ea_cons (ev_call' (ea_cons (ev_var 2) ea_nil)) ea_nil)) (ev_call' (ea_cons (ev_var 2) ea_nil)))))
  (st_ret ev_bl)
  st_next)
  (st_seq (st_if (et_test (ev_op rd_ne (ev_callX (ea_cons (ev_split (ev_call' (ea_cons (ev_var 2) ea_nil)) ev_str) ea_nil)) (ev_var 2)))
  (st_ret ev_bl)
  st_next)
  (st_seq (st_if (et_test (ev_op rd_ne (ev_list (fl_lc (vs := [13]) (it_any (ev_var 1)) (tg_name 13 (by decide)) (et_test (ev_op rd_ne (ev_op rd_eq (ev_call' (ea_cons (ev_var 13) ea_nil)) (ev_call' (ea_cons (ev_var 2) ea_nil))) (ev_op rd_eq (ev_var 13) (ev_var 2)))) (ev_var 13))) (ev_list (fl_lst ea_nil))))
  (st_ret ev_bl)
  st_next)
  (st_for (vs := [4]) (it_range1' (ea_cons ev_int ea_nil)) (tg_name 4 (by decide))
  (st_seq (st_par (ev_call' (ea_cons (ev_var 2) ea_nil)) (ev_op rd_add ev_int (ev_op rd_mul ev_int (ev_var 4))))
  (st_seq (st_par (ev_call' (ea_cons (ev_var 0) (ea_cons (ev_var 6) (ea_cons (ev_op rd_add (ev_cb cd_len (ea_cons (ev_var 5) ea_nil)) ev_int) ea_nil)))) (ev_op rd_ix ev_str (ev_call' (ea_cons (ev_var 0) (ea_cons (ev_op rd_add (ev_var 6) ev_int) (ea_cons ev_int ea_nil))))))
  (st_seq (st_set 9 (ev_if (et_test (ev_op rd_eq (ev_call' (ea_cons (ev_var 0) (ea_cons (ev_op rd_add (ev_var 6) ev_int) (ea_cons ev_int ea_nil)))) ev_int)) ev_str (ev_var 8)))
  (st_seq (st_set 10 (ev_op rd_add (ev_op rd_add (ev_slY (ev_var 5) po_no (po_part (ev_var 7))) (ev_var 9)) (ev_slY (ev_var 5) (po_part (ev_op rd_add (ev_var 7) (ev_call' (ea_cons (ev_var 0) (ea_cons (ev_op rd_add (ev_var 6) ev_int) (ea_cons ev_int ea_nil)))))) po_no)))
  (st_seq (st_if (et_test (ev_op (rd_inX (neg := true)) (ev_call' (ea_cons (ev_var 10) ea_nil)) (ev_tup (ea_cons ev_non (ea_cons (ev_var 10) ea_nil)))))
  (st_ret ev_bl)
  st_next)
  (st_if (et_and (et_test (ev_op rd_isnot (ev_call' (ea_cons (ev_var 10) ea_nil)) ev_non)) (et_not (et_tru (ev_call' (ea_cons (ev_callX (ea_cons (ev_split (ev_var 10) ev_str) ea_nil)) ea_nil)))))
  (st_ret ev_bl)
  st_next)))))))))))
  (st_seq (st_set 11 (ev_list (fl_sortTx (ev_list (fl_lc (vs := [2]) (it_any (ev_var 1)) (tg_name 2 (by decide)) et_yes (ev_op rd_ix (ev_op rd_ix (ev_var 2) ev_int) ev_int))))))
  (st_seq (st_set 12 (ev_call' (ea_cons (ev_tup (ea_cons (ev_tup (ea_cons ev_str (ea_cons (ev_tup (ea_cons (ev_tup (ea_cons ev_str (ea_cons ev_int ea_nil))) ea_nil)) (ea_cons (ev_tup ea_nil) (ea_cons ev_non (ea_cons (ev_cb cd_tupOf (ea_cons (ev_slY (ev_var 1) po_no (po_part ev_int)) ea_nil)) ea_nil)))))) ea_nil)) ea_nil)))
  (st_ret (ev_orV (ev_op rd_gt' (ev_cb cd_len (ea_cons (ev_var 1) ea_nil)) ev_int) (ev_op rd_eq (ev_list (fl_cb cl_sortT (ea_cons (ev_op rd_add (ev_op rd_ix (ev_var 12) ev_int) (ev_op rd_ix (ev_var 12) ev_int)) ea_nil))) (ev_var 11))))))))))) : TSm K _ b_law)⟩
end
end DD

set_option Elab.async false
set_option linter.all false
set_option maxRecDepth 100000
set_option maxHeartbeats 400000
namespace DD
open PySem PySem.Spec PyProof.Rows L2
/-! a drawn number -/
def tl_drawn : En → Option Fl :=
  (sSeq (sAsg (mOp dMod (mOp dAdd (mOp dMul (mOp dMod (mVar 3) (mC (.int 2147483563))) (mC (.int 69069))) (mOp dMul (mC (.int 104723)) (mOp dAdd (mVar 1) (mC (.int 1))))) (mC (.int 2147483563))) (gSet 3))
  (sSeq (sAsg (mOp dMod (mOp dAdd (mOp dMul (mVar 3) (mVar 3)) (mOp dFdiv (mVar 3) (mC (.int 3)))) (mC (.int 2147483399))) (gSet 3))
  (sRet (mOp dMod (mOp dFdiv (mOp dMod (mOp dAdd (mOp dMul (mVar 3) (mVar 3)) (mOp dFdiv (mVar 3) (mC (.int 7)))) (mC (.int 2147483647))) (mC (.int 11))) (mVar 2)))))
theorem dAdd_of (i j : Int) : dAdd (.int i) (.int j) = some (.int (i + j)) := rfl
theorem dSub_of (i j : Int) : dSub (.int i) (.int j) = some (.int (i - j)) := rfl
theorem drawn_tail (L : D) (k many z : Int) (g1 g2 : Option Sl) (hk : 0 ≤ k) (hk2 : k ≤ 100000) (hm : 1 ≤ many) :
    ∃ r : Int, tl_drawn [some (.val L), some (.val (.int k)), some (.val (.int many)), some (.val (.int z)), g1, g2] = some (.rt (.int r)) ∧ 0 ≤ r ∧ r < many := by
  have a1 := dMod_of (i := z) (j := 2147483563) (by decide)
  obtain ⟨x1, e1⟩ : ∃ x1, z % 2147483563 = x1 := ⟨_, rfl⟩
  have a2 := dMul_r (i := x1) (j := 69069) (by decide) (by decide)
  have a3 := dMul_r (i := 104723) (j := k + 1) (by omega) (by omega)
  have a4 := dMod_of (i := x1 * 69069 + 104723 * (k + 1)) (j := 2147483563) (by decide)
  have b0 := Int.emod_nonneg (x1 * 69069 + 104723 * (k + 1)) (show (2147483563 : Int) ≠ 0 by decide)
  have b1 := Int.emod_lt_of_pos (x1 * 69069 + 104723 * (k + 1)) (show (0 : Int) < 2147483563 by decide)
  obtain ⟨x2, e2⟩ : ∃ x2, (x1 * 69069 + 104723 * (k + 1)) % 2147483563 = x2 := ⟨_, rfl⟩
  rw [e2] at b0 b1
  have a5 := dMul_r (i := x2) (j := x2) (by omega) (by omega)
  have a6 := dFdiv_of (i := x2) (j := 3) (by decide) (by decide)
  have a7 := dMod_of (i := x2 * x2 + x2 / 3) (j := 2147483399) (by decide)
  have c0 := Int.emod_nonneg (x2 * x2 + x2 / 3) (show (2147483399 : Int) ≠ 0 by decide)
  have c1 := Int.emod_lt_of_pos (x2 * x2 + x2 / 3) (show (0 : Int) < 2147483399 by decide)
  obtain ⟨x3, e3⟩ : ∃ x3, (x2 * x2 + x2 / 3) % 2147483399 = x3 := ⟨_, rfl⟩
  rw [e3] at c0 c1
  have a8 := dMul_r (i := x3) (j := x3) (by omega) (by omega)
  have a9 := dFdiv_of (i := x3) (j := 7) (by decide) (by decide)
  have a10 := dMod_of (i := x3 * x3 + x3 / 7) (j := 2147483647) (by decide)
  have a11 := dFdiv_of (i := (x3 * x3 + x3 / 7) % 2147483647) (j := 11) (by decide) (by decide)
  have a12 := dMod_of (i := (x3 * x3 + x3 / 7) % 2147483647 / 11) (j := many) (by omega)
  refine ⟨_, ?_, Int.emod_nonneg ((x3 * x3 + x3 / 7) % 2147483647 / 11) (show many ≠ 0 by omega), Int.emod_lt_of_pos _ (show (0 : Int) < many by omega)⟩
  simp only [tl_drawn, sSeq, sAsg, sIf, sRet, sNext, sOwn, sFrz, sDrop, sPar, sPar3, sParOV, sParOO, sParOOO, sStop, mOp, mUn, mVar, mC, mTest, mTru, mIfE, mList, mLst, mStar, mCons, mNil, mTup, mCall, mCallL, mAnd, mOr, mNot, mAndV, mOrV, mNotV, mIter, mSl, mSlL, mPart, mNoPart, mIfL, mCatL, mCatV, gSet, gTupM, gConsM, gNilM, isI, frz, wipeM, lim, isB, its, List.map_cons, List.map_nil, List.length_cons, List.length_nil, List.replicate, List.replicate_zero, List.cons_append, List.nil_append, List.getElem?_cons_zero, List.getElem?_cons_succ, List.set_cons_zero, List.set_cons_succ, Option.bind_some, Option.bind_none, Option.map_some, Option.map_none, if_true, if_false, if_pos, Bool.not_true, Bool.not_false, Bool.false_eq_true, reduceCtorEq, a1, e1, a2, a3, dAdd_of, a4, e2, a5, a6, a7, e3, a8, a9, a10, a11, a12]
/-- the loop of a drawn number -/
theorem drawn_loop : ∀ (n : Nat) (L k many c : D) (r t : Int), 0 ≤ t → t.toNat + 1 = n →
    ∃ r' t' : Int, whl (mAnd (mTest (mOp dGt (mVar 5) (mC (.int 0)))) (mTest (mOp dGt (mVar 4) (mC (.int 0)))))
      (sSeq (sAsg (mOp dFdiv (mVar 5) (mC (.int 1000000))) (gSet 5)) (sAsg (mOp dSub (mVar 4) (mC (.int 1))) (gSet 4))) n
      [some (.val L), some (.val k), some (.val many), some (.val c), some (.val (.int t)), some (.val (.int r))] = some (.nx [some (.val L), some (.val k), some (.val many), some (.val c), some (.val (.int t')), some (.val (.int r'))])
  | 0, _, _, _, _, _, _, h, e => by omega
  | n + 1, L, k, many, c, r, t, h, e => by
    have hc : mAnd (mTest (mOp dGt (mVar 5) (mC (.int 0)))) (mTest (mOp dGt (mVar 4) (mC (.int 0)))) [some (.val L), some (.val k), some (.val many), some (.val c), some (.val (.int t)), some (.val (.int r))] = some (decide (0 < r) && decide (0 < t)) := by
      have g1 : dGt (.int r) (.int 0) = some (.bool (decide (0 < r))) := rfl
      have g2 : dGt (.int t) (.int 0) = some (.bool (decide (0 < t))) := rfl
      simp only [sSeq, sAsg, sIf, sRet, sNext, sOwn, sFrz, sDrop, sPar, sPar3, sParOV, sParOO, sParOOO, sStop, mOp, mUn, mVar, mC, mTest, mTru, mIfE, mList, mLst, mStar, mCons, mNil, mTup, mCall, mCallL, mAnd, mOr, mNot, mAndV, mOrV, mNotV, mIter, mSl, mSlL, mPart, mNoPart, mIfL, mCatL, mCatV, gSet, gTupM, gConsM, gNilM, isI, frz, wipeM, lim, isB, its, List.map_cons, List.map_nil, List.length_cons, List.length_nil, List.replicate, List.replicate_zero, List.cons_append, List.nil_append, List.getElem?_cons_zero, List.getElem?_cons_succ, List.set_cons_zero, List.set_cons_succ, Option.bind_some, Option.bind_none, Option.map_some, Option.map_none, if_true, if_false, if_pos, Bool.not_true, Bool.not_false, Bool.false_eq_true, reduceCtorEq, g1, g2]
      cases decide (0 < r) <;> rfl
    cases hq : (decide (0 < r) && decide (0 < t)) with
    | true =>
      rw [hq] at hc
      rw [Bool.and_eq_true] at hq
      have ht : 0 < t := of_decide_eq_true hq.2
      have a1 := dFdiv_of (i := r) (j := 1000000) (by decide) (by decide)
      have hb : (sSeq (sAsg (mOp dFdiv (mVar 5) (mC (.int 1000000))) (gSet 5)) (sAsg (mOp dSub (mVar 4) (mC (.int 1))) (gSet 4))) [some (.val L), some (.val k), some (.val many), some (.val c), some (.val (.int t)), some (.val (.int r))] =
          some (.nx [some (.val L), some (.val k), some (.val many), some (.val c), some (.val (.int (t - 1))), some (.val (.int (r / 1000000)))]) := by
        simp only [sSeq, sAsg, sIf, sRet, sNext, sOwn, sFrz, sDrop, sPar, sPar3, sParOV, sParOO, sParOOO, sStop, mOp, mUn, mVar, mC, mTest, mTru, mIfE, mList, mLst, mStar, mCons, mNil, mTup, mCall, mCallL, mAnd, mOr, mNot, mAndV, mOrV, mNotV, mIter, mSl, mSlL, mPart, mNoPart, mIfL, mCatL, mCatV, gSet, gTupM, gConsM, gNilM, isI, frz, wipeM, lim, isB, its, List.map_cons, List.map_nil, List.length_cons, List.length_nil, List.replicate, List.replicate_zero, List.cons_append, List.nil_append, List.getElem?_cons_zero, List.getElem?_cons_succ, List.set_cons_zero, List.set_cons_succ, Option.bind_some, Option.bind_none, Option.map_some, Option.map_none, if_true, if_false, if_pos, Bool.not_true, Bool.not_false, Bool.false_eq_true, reduceCtorEq, a1, dSub_of]
      rw [whl_t hc hb]
      exact drawn_loop n L k many c (r / 1000000) (t - 1) (by omega) (by omega)
    | false =>
      rw [hq] at hc
      rw [whl_f hc]
      exact ⟨r, t, rfl⟩
theorem drawn_ok (ns : List Int) (h63 : ns.length ≤ 63) (k many : Int) (hk : 0 ≤ k) (hk2 : k ≤ 100000) (hm : 1 ≤ many) (hm2 : many ≤ 2000000000) :
    ∃ r : Int, m__law_drawn [.list (ns.map .int), .int k, .int many] = some (.int r) ∧ 0 ≤ r ∧ r < many := by
  have a1 := dMul_r (i := 7) (j := k) (by omega) (by omega)
  cases ns with
  | nil =>
    obtain ⟨r, t1, t2, t3⟩ := drawn_tail (.list []) k many (7 * k) none none hk hk2 hm
    refine ⟨r, mDef_rt ?_, t2, t3⟩
    have b1 : dNe (.list []) (.list []) = some (.bool false) := dNe_self (k := 1) (lay_list fun d hd => nomatch hd) (by decide)
    have e : b__law_drawn (start0 6 [.list [], .int k, .int many]) = tl_drawn [some (.val (.list [])), some (.val (.int k)), some (.val (.int many)), some (.val (.int (7 * k))), none, none] := by
      unfold b__law_drawn
      simp only [start0, List.length_cons, List.length_nil, List.map_cons, List.map_nil]
      have z : sAsg (mOp dMul (mC (.int 7)) (mVar 1)) (gSet 3) [some (Sl.val (.list [])), some (.val (.int k)), some (.val (.int many)), none, none, none] = some (.nx [some (.val (.list [])), some (.val (.int k)), some (.val (.int many)), some (.val (.int (7 * k))), none, none]) := by
        simp only [sSeq, sAsg, sIf, sRet, sNext, sOwn, sFrz, sDrop, sPar, sPar3, sParOV, sParOO, sParOOO, sStop, mOp, mUn, mVar, mC, mTest, mTru, mIfE, mList, mLst, mStar, mCons, mNil, mTup, mCall, mCallL, mAnd, mOr, mNot, mAndV, mOrV, mNotV, mIter, mSl, mSlL, mPart, mNoPart, mIfL, mCatL, mCatV, gSet, gTupM, gConsM, gNilM, isI, frz, wipeM, lim, isB, its, List.map_cons, List.map_nil, List.length_cons, List.length_nil, List.replicate, List.replicate_zero, List.cons_append, List.nil_append, List.getElem?_cons_zero, List.getElem?_cons_succ, List.set_cons_zero, List.set_cons_succ, Option.bind_some, Option.bind_none, Option.map_some, Option.map_none, if_true, if_false, if_pos, Bool.not_true, Bool.not_false, Bool.false_eq_true, reduceCtorEq, a1]
      refine (seq_nx z).trans ?_
      refine (seq_nx (ρ' := [some (.val (.list [])), some (.val (.int k)), some (.val (.int many)), some (.val (.int (7 * k))), none, none]) ?_).trans rfl
      refine (if_f ?_).trans rfl
      simp only [sSeq, sAsg, sIf, sRet, sNext, sOwn, sFrz, sDrop, sPar, sPar3, sParOV, sParOO, sParOOO, sStop, mOp, mUn, mVar, mC, mTest, mTru, mIfE, mList, mLst, mStar, mCons, mNil, mTup, mCall, mCallL, mAnd, mOr, mNot, mAndV, mOrV, mNotV, mIter, mSl, mSlL, mPart, mNoPart, mIfL, mCatL, mCatV, gSet, gTupM, gConsM, gNilM, isI, frz, wipeM, lim, isB, its, List.map_cons, List.map_nil, List.length_cons, List.length_nil, List.replicate, List.replicate_zero, List.cons_append, List.nil_append, List.getElem?_cons_zero, List.getElem?_cons_succ, List.set_cons_zero, List.set_cons_succ, Option.bind_some, Option.bind_none, Option.map_some, Option.map_none, if_true, if_false, if_pos, Bool.not_true, Bool.not_false, Bool.false_eq_true, reduceCtorEq, b1, sized]
      rfl
    exact e.trans t1
  | cons n0 nr =>
    generalize hn : n0 :: nr = ns at h63 ⊢
    have ne : 0 < ns.length := by rw [← hn]; exact Nat.succ_pos _
    have hlen : ((ns.map PyData.int).length : Nat) ≤ cap := by rw [List.length_map]; exact Nat.le_trans h63 (by decide)
    have b1 : dNe (.list (ns.map .int)) (.list []) = some (.bool true) := by
      rw [dNe_of (shaped_ints ns) shaped_nil, eqv_nil, ← hn]
      rfl
    have b2 : dLen [.list (ns.map PyData.int)] = some (.int ns.length) := by rw [dLen_list hlen, List.length_map]
    have b3 := dMod_of (i := k) (j := ns.length) (by omega)
    have b4 := dFdiv_of (i := k) (j := ns.length) (by omega) (by omega)
    have q1 : 0 ≤ k % (ns.length : Int) := Int.emod_nonneg _ (by omega)
    have q2 : k % (ns.length : Int) < ns.length := Int.emod_lt_of_pos _ (by omega)
    obtain ⟨j, hj⟩ : ∃ j : Nat, k % (ns.length : Int) = (j : Int) := ⟨(k % (ns.length : Int)).toNat, by omega⟩
    have hjl : j < ns.length := by omega
    have b5 : dIx (.list (ns.map .int)) (.int (k % ns.length)) = some (.int ns[j]) := by
      rw [hj]
      exact atI_nat (by rw [List.getElem?_map, List.getElem?_eq_getElem hjl]; rfl)
    generalize ns[j] = c at b5
    have u0 : 0 ≤ k / (ns.length : Int) := Int.ediv_nonneg hk (by omega)
    have u1 : k / (ns.length : Int) ≤ k := Int.ediv_le_self _ hk
    obtain ⟨u, hu⟩ : ∃ u, k / (ns.length : Int) = u := ⟨_, rfl⟩
    rw [hu] at u0 u1 b4
    have b6 := dMul_r (i := 6553) (j := u) (by omega) (by omega)
    generalize PyData.list (ns.map .int) = L at *
    obtain ⟨p, c18, b7, b10⟩ : ∃ p c18 : Int, dPow (.int 10) (.int 18) = some (.int p) ∧ dFdiv (.int c) (.int p) = some (.int c18) := ⟨10 ^ 18, _, rfl, dFdiv_of (i := c) (j := 10 ^ 18) (by decide +kernel) (by decide +kernel)⟩
    have b8 : dGe (.int c) (.int p) = some (.bool (decide (p ≤ c))) := rfl
    have b9 : dLt (.int u) (.int 60) = some (.bool (decide (u < 60))) := rfl
    have start : b__law_drawn (start0 6 [L, .int k, .int many]) = b__law_drawn [some (.val L), some (.val (.int k)), some (.val (.int many)), none, none, none] := rfl
    -- where the cell is not large, or nothing is left of it
    have hend : ∀ g : Option Sl, sAsg (mOp dAdd (mVar 3) (mOp dMul (mC (.int 6553)) (mOp dFdiv (mVar 1) (mCall dLen (mCons (mVar 0) mNil))))) (gSet 3) [some (.val L), some (.val (.int k)), some (.val (.int many)), some (.val (.int c)), some (.val (.int u)), g] =
        some (.nx [some (.val L), some (.val (.int k)), some (.val (.int many)), some (.val (.int (c + 6553 * u))), some (.val (.int u)), g]) := fun g => by
      simp only [sSeq, sAsg, sIf, sRet, sNext, sOwn, sFrz, sDrop, sPar, sPar3, sParOV, sParOO, sParOOO, sStop, mOp, mUn, mVar, mC, mTest, mTru, mIfE, mList, mLst, mStar, mCons, mNil, mTup, mCall, mCallL, mAnd, mOr, mNot, mAndV, mOrV, mNotV, mIter, mSl, mSlL, mPart, mNoPart, mIfL, mCatL, mCatV, gSet, gTupM, gConsM, gNilM, isI, frz, wipeM, lim, isB, its, List.map_cons, List.map_nil, List.length_cons, List.length_nil, List.replicate, List.replicate_zero, List.cons_append, List.nil_append, List.getElem?_cons_zero, List.getElem?_cons_succ, List.set_cons_zero, List.set_cons_succ, Option.bind_some, Option.bind_none, Option.map_some, Option.map_none, if_true, if_false, if_pos, Bool.not_true, Bool.not_false, Bool.false_eq_true, reduceCtorEq, b2, b4, b6, dAdd_of]
    have hend2 : ∀ (t : Int) (g : Option Sl), sAsg (mOp dAdd (mVar 3) (mOp dMul (mC (.int 6553)) (mOp dFdiv (mVar 1) (mCall dLen (mCons (mVar 0) mNil))))) (gSet 3) [some (.val L), some (.val (.int k)), some (.val (.int many)), some (.val (.int c)), some (.val (.int t)), g] =
        some (.nx [some (.val L), some (.val (.int k)), some (.val (.int many)), some (.val (.int (c + 6553 * u))), some (.val (.int t)), g]) := fun t g => by
      simp only [sSeq, sAsg, sIf, sRet, sNext, sOwn, sFrz, sDrop, sPar, sPar3, sParOV, sParOO, sParOOO, sStop, mOp, mUn, mVar, mC, mTest, mTru, mIfE, mList, mLst, mStar, mCons, mNil, mTup, mCall, mCallL, mAnd, mOr, mNot, mAndV, mOrV, mNotV, mIter, mSl, mSlL, mPart, mNoPart, mIfL, mCatL, mCatV, gSet, gTupM, gConsM, gNilM, isI, frz, wipeM, lim, isB, its, List.map_cons, List.map_nil, List.length_cons, List.length_nil, List.replicate, List.replicate_zero, List.cons_append, List.nil_append, List.getElem?_cons_zero, List.getElem?_cons_succ, List.set_cons_zero, List.set_cons_succ, Option.bind_some, Option.bind_none, Option.map_some, Option.map_none, if_true, if_false, if_pos, Bool.not_true, Bool.not_false, Bool.false_eq_true, reduceCtorEq, b2, b4, b6, dAdd_of]
    have s1 : sAsg (mOp dMul (mC (.int 7)) (mVar 1)) (gSet 3) [some (.val L), some (.val (.int k)), some (.val (.int many)), none, none, none] = some (.nx [some (.val L), some (.val (.int k)), some (.val (.int many)), some (.val (.int (7 * k))), none, none]) := by
      simp only [sSeq, sAsg, sIf, sRet, sNext, sOwn, sFrz, sDrop, sPar, sPar3, sParOV, sParOO, sParOOO, sStop, mOp, mUn, mVar, mC, mTest, mTru, mIfE, mList, mLst, mStar, mCons, mNil, mTup, mCall, mCallL, mAnd, mOr, mNot, mAndV, mOrV, mNotV, mIter, mSl, mSlL, mPart, mNoPart, mIfL, mCatL, mCatV, gSet, gTupM, gConsM, gNilM, isI, frz, wipeM, lim, isB, its, List.map_cons, List.map_nil, List.length_cons, List.length_nil, List.replicate, List.replicate_zero, List.cons_append, List.nil_append, List.getElem?_cons_zero, List.getElem?_cons_succ, List.set_cons_zero, List.set_cons_succ, Option.bind_some, Option.bind_none, Option.map_some, Option.map_none, if_true, if_false, if_pos, Bool.not_true, Bool.not_false, Bool.false_eq_true, reduceCtorEq, a1]
    have s2 : mTest (mOp dNe (mVar 0) (mList (mLst mNil))) [some (.val L), some (.val (.int k)), some (.val (.int many)), some (.val (.int (7 * k))), none, none] = some true := by
      have z : sized ([] : List D) = some [] := rfl
      simp only [sSeq, sAsg, sIf, sRet, sNext, sOwn, sFrz, sDrop, sPar, sPar3, sParOV, sParOO, sParOOO, sStop, mOp, mUn, mVar, mC, mTest, mTru, mIfE, mList, mLst, mStar, mCons, mNil, mTup, mCall, mCallL, mAnd, mOr, mNot, mAndV, mOrV, mNotV, mIter, mSl, mSlL, mPart, mNoPart, mIfL, mCatL, mCatV, gSet, gTupM, gConsM, gNilM, isI, frz, wipeM, lim, isB, its, List.map_cons, List.map_nil, List.length_cons, List.length_nil, List.replicate, List.replicate_zero, List.cons_append, List.nil_append, List.getElem?_cons_zero, List.getElem?_cons_succ, List.set_cons_zero, List.set_cons_succ, Option.bind_some, Option.bind_none, Option.map_some, Option.map_none, if_true, if_false, if_pos, Bool.not_true, Bool.not_false, Bool.false_eq_true, reduceCtorEq, z, b1]
    have s3 : sAsg (mOp dIx (mVar 0) (mOp dMod (mVar 1) (mCall dLen (mCons (mVar 0) mNil)))) (gSet 3) [some (.val L), some (.val (.int k)), some (.val (.int many)), some (.val (.int (7 * k))), none, none] = some (.nx [some (.val L), some (.val (.int k)), some (.val (.int many)), some (.val (.int c)), none, none]) := by
      simp only [sSeq, sAsg, sIf, sRet, sNext, sOwn, sFrz, sDrop, sPar, sPar3, sParOV, sParOO, sParOOO, sStop, mOp, mUn, mVar, mC, mTest, mTru, mIfE, mList, mLst, mStar, mCons, mNil, mTup, mCall, mCallL, mAnd, mOr, mNot, mAndV, mOrV, mNotV, mIter, mSl, mSlL, mPart, mNoPart, mIfL, mCatL, mCatV, gSet, gTupM, gConsM, gNilM, isI, frz, wipeM, lim, isB, its, List.map_cons, List.map_nil, List.length_cons, List.length_nil, List.replicate, List.replicate_zero, List.cons_append, List.nil_append, List.getElem?_cons_zero, List.getElem?_cons_succ, List.set_cons_zero, List.set_cons_succ, Option.bind_some, Option.bind_none, Option.map_some, Option.map_none, if_true, if_false, if_pos, Bool.not_true, Bool.not_false, Bool.false_eq_true, reduceCtorEq, b2, b3, b5]
    have s4 : sAsg (mOp dFdiv (mVar 1) (mCall dLen (mCons (mVar 0) mNil))) (gSet 4) [some (.val L), some (.val (.int k)), some (.val (.int many)), some (.val (.int c)), none, none] = some (.nx [some (.val L), some (.val (.int k)), some (.val (.int many)), some (.val (.int c)), some (.val (.int u)), none]) := by
      simp only [sSeq, sAsg, sIf, sRet, sNext, sOwn, sFrz, sDrop, sPar, sPar3, sParOV, sParOO, sParOOO, sStop, mOp, mUn, mVar, mC, mTest, mTru, mIfE, mList, mLst, mStar, mCons, mNil, mTup, mCall, mCallL, mAnd, mOr, mNot, mAndV, mOrV, mNotV, mIter, mSl, mSlL, mPart, mNoPart, mIfL, mCatL, mCatV, gSet, gTupM, gConsM, gNilM, isI, frz, wipeM, lim, isB, its, List.map_cons, List.map_nil, List.length_cons, List.length_nil, List.replicate, List.replicate_zero, List.cons_append, List.nil_append, List.getElem?_cons_zero, List.getElem?_cons_succ, List.set_cons_zero, List.set_cons_succ, Option.bind_some, Option.bind_none, Option.map_some, Option.map_none, if_true, if_false, if_pos, Bool.not_true, Bool.not_false, Bool.false_eq_true, reduceCtorEq, b2, b4]
    have s5 : mAnd (mTest (mOp dGe (mVar 3) (mOp dPow (mC (.int 10)) (mC (.int 18))))) (mTest (mOp dLt (mVar 4) (mC (.int 60)))) [some (.val L), some (.val (.int k)), some (.val (.int many)), some (.val (.int c)), some (.val (.int u)), none] = some (decide (p ≤ c) && decide (u < 60)) := by
      simp only [sSeq, sAsg, sIf, sRet, sNext, sOwn, sFrz, sDrop, sPar, sPar3, sParOV, sParOO, sParOOO, sStop, mOp, mUn, mVar, mC, mTest, mTru, mIfE, mList, mLst, mStar, mCons, mNil, mTup, mCall, mCallL, mAnd, mOr, mNot, mAndV, mOrV, mNotV, mIter, mSl, mSlL, mPart, mNoPart, mIfL, mCatL, mCatV, gSet, gTupM, gConsM, gNilM, isI, frz, wipeM, lim, isB, its, List.map_cons, List.map_nil, List.length_cons, List.length_nil, List.replicate, List.replicate_zero, List.cons_append, List.nil_append, List.getElem?_cons_zero, List.getElem?_cons_succ, List.set_cons_zero, List.set_cons_succ, Option.bind_some, Option.bind_none, Option.map_some, Option.map_none, if_true, if_false, if_pos, Bool.not_true, Bool.not_false, Bool.false_eq_true, reduceCtorEq, b7, b8, b9]
      cases decide (p ≤ c) <;> rfl
    cases hq : (decide (p ≤ c) && decide (u < 60)) with
    | false =>
      rw [hq] at s5
      obtain ⟨r, t1, t2, t3⟩ := drawn_tail L k many (c + 6553 * u) (some (.val (.int u))) none hk hk2 hm
      refine ⟨r, mDef_rt ?_, t2, t3⟩
      rw [start]
      unfold b__law_drawn
      refine (seq_nx s1).trans ((seq_nx ((if_t s2).trans ((seq_nx s3).trans ((seq_nx s4).trans ((seq_nx (if_f s5)).trans (hend none)))))).trans t1)
    | true =>
      rw [hq] at s5
      have s6 : sAsg (mOp dFdiv (mVar 3) (mOp dPow (mC (.int 10)) (mC (.int 18)))) (gSet 5) [some (.val L), some (.val (.int k)), some (.val (.int many)), some (.val (.int c)), some (.val (.int u)), none] = some (.nx [some (.val L), some (.val (.int k)), some (.val (.int many)), some (.val (.int c)), some (.val (.int u)), some (.val (.int c18))]) := by
        simp only [sSeq, sAsg, sIf, sRet, sNext, sOwn, sFrz, sDrop, sPar, sPar3, sParOV, sParOO, sParOOO, sStop, mOp, mUn, mVar, mC, mTest, mTru, mIfE, mList, mLst, mStar, mCons, mNil, mTup, mCall, mCallL, mAnd, mOr, mNot, mAndV, mOrV, mNotV, mIter, mSl, mSlL, mPart, mNoPart, mIfL, mCatL, mCatV, gSet, gTupM, gConsM, gNilM, isI, frz, wipeM, lim, isB, its, List.map_cons, List.map_nil, List.length_cons, List.length_nil, List.replicate, List.replicate_zero, List.cons_append, List.nil_append, List.getElem?_cons_zero, List.getElem?_cons_succ, List.set_cons_zero, List.set_cons_succ, Option.bind_some, Option.bind_none, Option.map_some, Option.map_none, if_true, if_false, if_pos, Bool.not_true, Bool.not_false, Bool.false_eq_true, reduceCtorEq, b7, b10]
      obtain ⟨r', t', hl⟩ := drawn_loop (u.toNat + 1) L (.int k) (.int many) (.int c) c18 u u0 rfl
      have hw : sWhile fuel__law_drawn_0 (mAnd (mTest (mOp dGt (mVar 5) (mC (.int 0)))) (mTest (mOp dGt (mVar 4) (mC (.int 0)))))
          (sSeq (sAsg (mOp dFdiv (mVar 5) (mC (.int 1000000))) (gSet 5)) (sAsg (mOp dSub (mVar 4) (mC (.int 1))) (gSet 4)))
          [some (.val L), some (.val (.int k)), some (.val (.int many)), some (.val (.int c)), some (.val (.int u)), some (.val (.int c18))] = some (.nx [some (.val L), some (.val (.int k)), some (.val (.int many)), some (.val (.int c)), some (.val (.int t')), some (.val (.int r'))]) := hl
      have hg : ∀ t'' : Int, mTest (mOp dGt (mVar 5) (mC (.int 0))) [some (.val L), some (.val (.int k)), some (.val (.int many)), some (.val (.int c)), some (.val (.int t'')), some (.val (.int r'))] = some (decide (0 < r')) := fun t'' => rfl
      cases hr : decide (0 < r') with
      | true =>
        have d1 := dMod_of (i := r') (j := 1000000) (by decide)
        have d2 := dMod_of (i := r' % 1000000) (j := many) (by omega)
        refine ⟨_, mDef_rt ?_, Int.emod_nonneg (r' % 1000000) (show many ≠ 0 by omega), Int.emod_lt_of_pos _ (show (0 : Int) < many by omega)⟩
        rw [start]
        unfold b__law_drawn
        have hret : sRet (mOp dMod (mOp dMod (mVar 5) (mC (.int 1000000))) (mVar 2)) [some (.val L), some (.val (.int k)), some (.val (.int many)), some (.val (.int c)), some (.val (.int t')), some (.val (.int r'))] = some (.rt (.int (r' % 1000000 % many))) := by
          simp only [sSeq, sAsg, sIf, sRet, sNext, sOwn, sFrz, sDrop, sPar, sPar3, sParOV, sParOO, sParOOO, sStop, mOp, mUn, mVar, mC, mTest, mTru, mIfE, mList, mLst, mStar, mCons, mNil, mTup, mCall, mCallL, mAnd, mOr, mNot, mAndV, mOrV, mNotV, mIter, mSl, mSlL, mPart, mNoPart, mIfL, mCatL, mCatV, gSet, gTupM, gConsM, gNilM, isI, frz, wipeM, lim, isB, its, List.map_cons, List.map_nil, List.length_cons, List.length_nil, List.replicate, List.replicate_zero, List.cons_append, List.nil_append, List.getElem?_cons_zero, List.getElem?_cons_succ, List.set_cons_zero, List.set_cons_succ, Option.bind_some, Option.bind_none, Option.map_some, Option.map_none, if_true, if_false, if_pos, Bool.not_true, Bool.not_false, Bool.false_eq_true, reduceCtorEq, d1, d2]
        refine (seq_nx s1).trans (seq_rt ((if_t s2).trans ((seq_nx s3).trans ((seq_nx s4).trans (seq_rt ((if_t s5).trans ((seq_nx s6).trans ((seq_nx hw).trans ((if_t ((hg t').trans (by rw [hr]))).trans hret)))))))))
      | false =>
        obtain ⟨r, t1, t2, t3⟩ := drawn_tail L k many (c + 6553 * u) (some (.val (.int t'))) (some (.val (.int r'))) hk hk2 hm
        refine ⟨r, mDef_rt ?_, t2, t3⟩
        rw [start]
        unfold b__law_drawn
        have s8 : sIf (mTest (mOp dGt (mVar 5) (mC (.int 0)))) (sRet (mOp dMod (mOp dMod (mVar 5) (mC (.int 1000000))) (mVar 2))) sNext [some (.val L), some (.val (.int k)), some (.val (.int many)), some (.val (.int c)), some (.val (.int t')), some (.val (.int r'))] =
            some (.nx [some (.val L), some (.val (.int k)), some (.val (.int many)), some (.val (.int c)), some (.val (.int t')), some (.val (.int r'))]) := by
          rw [if_f ((hg t').trans (by rw [hr]))]
          rfl
        refine (seq_nx s1).trans ((seq_nx ((if_t s2).trans ((seq_nx s3).trans ((seq_nx s4).trans ((seq_nx ((if_t s5).trans ((seq_nx s6).trans ((seq_nx hw).trans s8)))).trans (hend2 t' _)))))).trans t1)
end DD

set_option Elab.async false
set_option linter.all false
set_option maxRecDepth 100000
set_option maxHeartbeats 1000000
namespace DD
open PySem PySem.Spec PyProof.Rows L2
/-! ### the cards that are drawn, and what is asked of each -/
def nm4 : List Str := ["a", "bb", "lib", "q"]
def gens : List Int := [0, -1, -2, -3, -4, -5, -6, -7, -8]
def rests0 : List (List D) := [[.none, .none, .none], [.int 0, .none, .none], [.none, .str "mem", .none], [.none, .none, .str "vol"]]
def rests : List (List D) := [[.none, .none, .none], [.none, .str "mem", .none], [.none, .none, .str "vol"]] ++ gens.map fun g => [.int g, .none, .none]
def hows : List Str := ["old", "shared", "new", "more"]
def thens : List Str := ["keep", "drop", "pass"]
def fcard (n : Str) (r : List D) (h t : Str) : D := .tuple [.tuple (.str n :: r), .str h, .str t]
def dcard : D := .tuple [.str "data", .tuple [.tuple [.int 1, .int 2], .tuple [.int 3]]]
def fcards : List D := nm4.flatMap fun n => rests.flatMap fun r => hows.flatMap fun h => thens.map fun t => fcard n r h t
def cards : List D := dcard :: fcards
def isF (c : D) : Bool := match c with
  | .tuple [_, _, _] => true
  | _ => false
def refOf (c : D) : D := match c with
  | .tuple (r :: _) => r
  | _ => .none
def nmOf (c : D) : Str := match c with
  | .tuple (.tuple (.str n :: _) :: _) => n
  | _ => ""
def alOf (c : D) : Bool := match c with
  | .tuple (.tuple [_, .none, .none, .none] :: _) => true
  | _ => false
def psOf (c : D) : Bool := match c with
  | .tuple [_, _, .str t] => decide (t = "pass")
  | _ => false
def thOf (c : D) : Str := match c with
  | .tuple [_, _, .str t] => t
  | _ => ""
def skOf (c : D) : Bool := match c with
  | .tuple [_, .str h, .str t] => decide (h = "shared") && decide (t = "keep")
  | _ => false
def volOf (c : D) : D := match c with
  | .tuple (.tuple [_, _, _, v] :: _) => v
  | _ => .none
def isV (c : D) : Bool := match volOf c with
  | .none => false
  | _ => true
def volS (c : D) : Str := match volOf c with
  | .str v => v
  | _ => ""
def okName (n : Str) : Bool := decide (n ∈ nm4)
/-- of a card for a file -/
def factF (c : D) : List (Option D) := [m_is_for_file [c], dIx c (.int 0), m_is_name_alone [refOf c], dIx (refOf c) (.int 0), dIx c (.int 2), m_is_shared_kept [c], dIx (refOf c) (.int 3), dIsNot (volOf c) .none,
  (dLen [c]).bind fun x => dEq x (.int 3), (dSl (refOf c) (some 1) none).bind fun x => dEq x (.tuple [.none, .none, .none]), (dSl c (some 1) none).bind fun x => dEq x (.tuple [.str "shared", .str "keep"]), dNe (.str (thOf c)) (.str "pass"), dEq (.str (thOf c)) (.str "pass")]
def holdF (c : D) : List (Option D) := [some (.bool true), some (refOf c), some (.bool (alOf c)), some (.str (nmOf c)), some (.str (thOf c)), some (.bool (skOf c)), some (volOf c), some (.bool (isV c)),
  some (.bool true), some (.bool (alOf c)), some (.bool (skOf c)), some (.bool (!psOf c)), some (.bool (psOf c))]
theorem facts_F : fcards.map factF = fcards.map holdF := by kernel_rfl
theorem facts_D : [m_is_for_file [dcard], (dLen [dcard]).bind fun x => dEq x (.int 3)] = [some (.bool false), some (.bool false)] := by kernel_rfl
def chkF (c : D) : Bool := isF c && okName (nmOf c) && (match volOf c with | .none => true | .str v => decide (v = "vol") | _ => false) && PyData.canLay0 c && decide (c.depth ≤ 3)
theorem chk_F : fcards.all chkF = true := by kernel_rfl
theorem map_eq {α β : Type} {f g : α → β} : ∀ {l : List α}, l.map f = l.map g → ∀ x ∈ l, f x = g x
  | [], _, x, h => nomatch h
  | y :: r, e, x, h => by
    rw [List.map_cons, List.map_cons] at e
    injection e with e1 e2
    rcases List.mem_cons.mp h with rfl | h
    · exact e1
    · exact map_eq e2 x h
structure CF (c : D) : Prop where
  file : m_is_for_file [c] = some (.bool true)
  ref : dIx c (.int 0) = some (refOf c)
  al : m_is_name_alone [refOf c] = some (.bool (alOf c))
  nm : dIx (refOf c) (.int 0) = some (.str (nmOf c))
  th : dIx c (.int 2) = some (.str (thOf c))
  sk : m_is_shared_kept [c] = some (.bool (skOf c))
  vol : dIx (refOf c) (.int 3) = some (volOf c)
  isv : dIsNot (volOf c) .none = some (.bool (isV c))
  len : (dLen [c]).bind (fun x => dEq x (.int 3)) = some (.bool true)
  al2 : (dSl (refOf c) (some 1) none).bind (fun x => dEq x (.tuple [.none, .none, .none])) = some (.bool (alOf c))
  sk2 : (dSl c (some 1) none).bind (fun x => dEq x (.tuple [.str "shared", .str "keep"])) = some (.bool (skOf c))
  np : dNe (.str (thOf c)) (.str "pass") = some (.bool (!psOf c))
  ps : dEq (.str (thOf c)) (.str "pass") = some (.bool (psOf c))
  isf : isF c = true
  okn : nmOf c ∈ nm4
  okv : volOf c = .none ∨ volOf c = .str "vol"
  lay : Lay 3 c
theorem cf (c : D) (h : c ∈ fcards) : CF c := by
  have e := map_eq facts_F c h
  have k := List.all_eq_true.mp chk_F c h
  unfold factF holdF at e
  simp only [List.cons.injEq, and_true] at e
  obtain ⟨e1, e2, e3, e4, e5, e6, e7, e8, e9, e10, e11, e12, e13⟩ := e
  unfold chkF at k
  simp only [Bool.and_eq_true] at k
  obtain ⟨⟨⟨⟨k1, k2⟩, k3⟩, k4⟩, k5⟩ := k
  refine ⟨e1, e2, e3, e4, e5, e6, e7, e8, e9, e10, e11, e12, e13, k1, of_decide_eq_true k2, ?_, k4, of_decide_eq_true k5⟩
  revert k3
  cases volOf c with
  | none => exact fun _ => .inl rfl
  | str v => exact fun q => .inr (by rw [of_decide_eq_true q])
  | _ => exact fun q => nomatch q
theorem okn_ok {n : Str} (h : n ∈ nm4) : PyData.strOk n = true := by
  have : nm4.all PyData.strOk = true := by decide +kernel
  exact List.all_eq_true.mp this n h
/-- a card that is drawn -/
def InC (c : D) : Prop := c = dcard ∨ c ∈ fcards
theorem cd_file : m_is_for_file [dcard] = some (.bool false) := by
  have e := facts_D
  simp only [List.cons.injEq, and_true] at e
  exact e.1
theorem cdat_len : (dLen [dcard]).bind (fun x => dEq x (.int 3)) = some (.bool false) := by
  have e := facts_D
  simp only [List.cons.injEq, and_true] at e
  exact e.2
theorem cd_isf : isF dcard = false := rfl
theorem cd_lay : Lay 3 dcard := ⟨by decide +kernel, by decide +kernel⟩
theorem InC.lay {c : D} (h : InC c) : Lay 3 c := by
  rcases h with rfl | h
  · exact cd_lay
  · exact (cf c h).lay
theorem InC.file {c : D} (h : InC c) : m_is_for_file [c] = some (.bool (isF c)) := by
  rcases h with rfl | h
  · exact cd_file
  · rw [(cf c h).isf]; exact (cf c h).file
theorem InC.len {c : D} (h : InC c) : (dLen [c]).bind (fun x => dEq x (.int 3)) = some (.bool (isF c)) := by
  rcases h with rfl | h
  · exact cdat_len
  · rw [(cf c h).isf]; exact (cf c h).len
theorem InC.cf {c : D} (h : InC c) (k : isF c = true) : CF c := by
  rcases h with rfl | h
  · cases k
  · exact DD.cf c h
end DD

set_option Elab.async false
set_option linter.all false
set_option maxRecDepth 100000
set_option maxHeartbeats 1000000
namespace DD
open PySem PySem.Spec PyProof.Rows L2
/-! ### what is passed on -/
structure Stp where
  l : D
  lib : Bool
  cs : List D
def progD (b : Bool) : D := if b = true then .tuple [.str "lib", .str "mem"] else .tuple [.tuple [.str "end", .int 0]]
def stD (s : Stp) : D := .tuple [s.l, progD s.lib, .tuple [], .none, .tuple s.cs]
def tS (ps : List Str) : D := .tuple (ps.map .str)
def OkN (ps : List Str) : Prop := ∀ m ∈ ps, m ∈ nm4
def OkC (cs : List D) : Prop := ∀ c ∈ cs, InC c
theorem OkN.ok {ps : List Str} (h : OkN ps) : ∀ m ∈ ps, PyData.strOk m = true := fun m hm => okn_ok (h m hm)
theorem OkN.snoc {ps : List Str} {n : Str} (h : OkN ps) (k : n ∈ nm4) : OkN (ps ++ [n]) := fun m hm => by
  rcases List.mem_append.mp hm with q | q
  · exact h m q
  · rw [List.mem_singleton.mp q]; exact k
theorem OkN.filter {ps : List Str} {p : Str → Bool} (h : OkN ps) : OkN (ps.filter p) := fun m hm => h m (List.mem_filter.mp hm).1
def pbF (ps : List Str) (n : Str) (p : Bool) : List Str := if p = true then (if n ∈ ps then ps else ps ++ [n]) else ps.filter fun o => !decide (o = n)
def pF (ps : List Str) (c : D) : List Str := if (isF c && alOf c) = true then pbF ps (nmOf c) (psOf c) else ps
theorem pbF_ok {ps : List Str} {n : Str} {p : Bool} (h : OkN ps) (k : n ∈ nm4) : OkN (pbF ps n p) := by
  unfold pbF
  split
  · split
    · exact h
    · exact h.snoc k
  · exact h.filter
theorem pbF_len {ps : List Str} {n : Str} {p : Bool} : (pbF ps n p).length ≤ ps.length + 1 := by
  unfold pbF
  split
  · split
    · omega
    · rw [List.length_append]; exact Nat.le_refl _
  · exact Nat.le_trans (List.length_filter_le _ _) (by omega)
theorem pF_ok {ps : List Str} {c : D} (h : OkN ps) (k : InC c) : OkN (pF ps c) := by
  unfold pF
  split
  · rename_i q
    rw [Bool.and_eq_true] at q
    exact pbF_ok h (k.cf q.1).okn
  · exact h
theorem pF_len {ps : List Str} {c : D} : (pF ps c).length ≤ ps.length + 1 := by
  unfold pF
  split
  · exact pbF_len
  · omega
theorem pb_eq (ps : List Str) (hk : OkN ps) (hl : ps.length ≤ 900) (c : D) (h : CF c) :
    m__passed_behind [.list (ps.map .str), c] = some (.list ((pbF ps (nmOf c) (psOf c)).map .str)) := by
  have hn := okn_ok h.okn
  have hf : ∀ ρ, mLc (mIter (mVar 0)) (gSet 3) (mTest (mOp dNe (mVar 3) (mVar 2))) (mVar 3) [3] [some (.val (.list (ps.map .str))), some (.val c), some (.val (.str (nmOf c))), ρ] = some ((ps.filter fun o => !decide (o = nmOf c)).map .str) := fun ρ =>
    lc_strs (l := ps) rfl (cap_s (by omega)) fun m hm => ⟨_, rfl, by
      show mTest (mOp dNe (mVar 3) (mVar 2)) [some (.val (.list (ps.map .str))), some (.val c), some (.val (.str (nmOf c))), some (.val (.str m))] = _
      exact test_of ((op_of rfl rfl).trans (dNe_str (hk.ok m hm) hn)), rfl⟩
  have hz : sized (ps.map PyData.str ++ [.str (nmOf c)]) = some (ps.map PyData.str ++ [.str (nmOf c)]) := sized_le (by rw [List.length_append, List.length_map]; exact cap_s (by show ps.length + 1 ≤ 1000; omega))
  unfold pbF
  cases hp : psOf c with
  | false =>
    have np := h.np
    rw [hp] at np
    simp only [m__passed_behind, mDef, start0, b__passed_behind, sSeq, sAsg, sIf, sRet, sNext, sOwn, sFrz, sDrop, sPar, sPar3, sParOV, sParOO, sParOOO, sStop, mOp, mUn, mVar, mC, mTest, mTru, mIfE, mList, mLst, mStar, mCons, mNil, mTup, mCall, mCallL, mAnd, mOr, mNot, mAndV, mOrV, mNotV, mIter, mSl, mSlL, mPart, mNoPart, mIfL, mCatL, mCatV, gSet, gTupM, gConsM, gNilM, isI, frz, wipeM, lim, isB, its, List.map_cons, List.map_nil, List.length_cons, List.length_nil, List.replicate, List.replicate_zero, List.cons_append, List.nil_append, List.getElem?_cons_zero, List.getElem?_cons_succ, List.set_cons_zero, List.set_cons_succ, Option.bind_some, Option.bind_none, Option.map_some, Option.map_none, if_true, if_false, if_pos, Bool.not_true, Bool.not_false, Bool.false_eq_true, reduceCtorEq, h.ref, h.nm, h.th, np, hf]
  | true =>
    have np := h.np
    rw [hp] at np
    by_cases hi : nmOf c ∈ ps
    · simp only [m__passed_behind, mDef, start0, b__passed_behind, sSeq, sAsg, sIf, sRet, sNext, sOwn, sFrz, sDrop, sPar, sPar3, sParOV, sParOO, sParOOO, sStop, mOp, mUn, mVar, mC, mTest, mTru, mIfE, mList, mLst, mStar, mCons, mNil, mTup, mCall, mCallL, mAnd, mOr, mNot, mAndV, mOrV, mNotV, mIter, mSl, mSlL, mPart, mNoPart, mIfL, mCatL, mCatV, gSet, gTupM, gConsM, gNilM, isI, frz, wipeM, lim, isB, its, List.map_cons, List.map_nil, List.length_cons, List.length_nil, List.replicate, List.replicate_zero, List.cons_append, List.nil_append, List.getElem?_cons_zero, List.getElem?_cons_succ, List.set_cons_zero, List.set_cons_succ, Option.bind_some, Option.bind_none, Option.map_some, Option.map_none, if_true, if_false, if_pos, Bool.not_true, Bool.not_false, Bool.false_eq_true, reduceCtorEq, h.ref, h.nm, h.th, np, inX_l, hi, decide_true]
    · simp only [m__passed_behind, mDef, start0, b__passed_behind, sSeq, sAsg, sIf, sRet, sNext, sOwn, sFrz, sDrop, sPar, sPar3, sParOV, sParOO, sParOOO, sStop, mOp, mUn, mVar, mC, mTest, mTru, mIfE, mList, mLst, mStar, mCons, mNil, mTup, mCall, mCallL, mAnd, mOr, mNot, mAndV, mOrV, mNotV, mIter, mSl, mSlL, mPart, mNoPart, mIfL, mCatL, mCatV, gSet, gTupM, gConsM, gNilM, isI, frz, wipeM, lim, isB, its, List.map_cons, List.map_nil, List.length_cons, List.length_nil, List.replicate, List.replicate_zero, List.cons_append, List.nil_append, List.getElem?_cons_zero, List.getElem?_cons_succ, List.set_cons_zero, List.set_cons_succ, Option.bind_some, Option.bind_none, Option.map_some, Option.map_none, if_true, if_false, if_pos, Bool.not_true, Bool.not_false, Bool.false_eq_true, reduceCtorEq, h.ref, h.nm, h.th, np, inX_l, hi, decide_false, hz, List.map_append]
theorem app_of {i : Nat} {a : En → Option D} {ρ : En} {ds : List D} {d : D} (h : ρ[i]? = some (some (.own ds))) (k : a ρ = some d) (l : ds.length ≤ 900) : sAppend i a ρ = some (.nx (ρ.set i (some (.own (ds ++ [d]))))) := by
  unfold sAppend
  rw [h]
  show ((a ρ).bind fun d => if ds.length < cap then some (Fl.nx (ρ.set i (some (.own (ds ++ [d]))))) else none) = _
  rw [k]
  exact if_pos (Nat.lt_of_le_of_lt l (by decide))
def bp_in : En → Option Fl :=
  (sIf (mAnd (mTru (mCall (lim 1 m_is_for_file) (mCons (mVar 4) mNil))) (mTru (mCall (lim 1 m_is_name_alone) (mCons (mOp dIx (mVar 4) (mC (.int 0))) mNil))))
  (sAsg (mCall (lim 2 m__passed_behind) (mCons (mVar 2) (mCons (mVar 4) mNil))) (gSet 2))
  sNext)
theorem lp_in (S T : Option Sl) (st : Option Sl) : ∀ (cs : List D), OkC cs → ∀ (ps : List Str) (x : Option Sl), OkN ps → ps.length + cs.length ≤ 900 →
    ∃ x', loop (gSet 4) bp_in cs [S, T, some (.val (.list (ps.map .str))), st, x] = some (.nx [S, T, some (.val (.list ((cs.foldl pF ps).map .str))), st, x'])
  | [], _, ps, x, _, _ => ⟨x, rfl⟩
  | c :: cs, h, ps, x, hk, hl => by
    have hc := h c List.mem_cons_self
    rw [List.length_cons] at hl
    have hb : bp_in [S, T, some (.val (.list (ps.map .str))), st, some (.val c)] = some (.nx [S, T, some (.val (.list ((pF ps c).map .str))), st, some (.val c)]) := by
      unfold pF
      cases hf : isF c with
      | false =>
        have e := hc.file
        rw [hf] at e
        simp only [bp_in, sSeq, sAsg, sIf, sRet, sNext, sOwn, sFrz, sDrop, sPar, sPar3, sParOV, sParOO, sParOOO, sStop, mOp, mUn, mVar, mC, mTest, mTru, mIfE, mList, mLst, mStar, mCons, mNil, mTup, mCall, mCallL, mAnd, mOr, mNot, mAndV, mOrV, mNotV, mIter, mSl, mSlL, mPart, mNoPart, mIfL, mCatL, mCatV, gSet, gTupM, gConsM, gNilM, isI, frz, wipeM, lim, isB, its, List.map_cons, List.map_nil, List.length_cons, List.length_nil, List.replicate, List.replicate_zero, List.cons_append, List.nil_append, List.getElem?_cons_zero, List.getElem?_cons_succ, List.set_cons_zero, List.set_cons_succ, Option.bind_some, Option.bind_none, Option.map_some, Option.map_none, if_true, if_false, if_pos, Bool.not_true, Bool.not_false, Bool.false_eq_true, reduceCtorEq, e, tru, Bool.false_and]
      | true =>
        have F := hc.cf hf
        cases ha : alOf c with
        | false =>
          have e := F.al
          rw [ha] at e
          simp only [bp_in, sSeq, sAsg, sIf, sRet, sNext, sOwn, sFrz, sDrop, sPar, sPar3, sParOV, sParOO, sParOOO, sStop, mOp, mUn, mVar, mC, mTest, mTru, mIfE, mList, mLst, mStar, mCons, mNil, mTup, mCall, mCallL, mAnd, mOr, mNot, mAndV, mOrV, mNotV, mIter, mSl, mSlL, mPart, mNoPart, mIfL, mCatL, mCatV, gSet, gTupM, gConsM, gNilM, isI, frz, wipeM, lim, isB, its, List.map_cons, List.map_nil, List.length_cons, List.length_nil, List.replicate, List.replicate_zero, List.cons_append, List.nil_append, List.getElem?_cons_zero, List.getElem?_cons_succ, List.set_cons_zero, List.set_cons_succ, Option.bind_some, Option.bind_none, Option.map_some, Option.map_none, if_true, if_false, if_pos, Bool.not_true, Bool.not_false, Bool.false_eq_true, reduceCtorEq, F.file, F.ref, e, tru, Bool.true_and]
        | true =>
          have e := F.al
          rw [ha] at e
          have e2 := pb_eq ps hk (by omega) c F
          simp only [bp_in, sSeq, sAsg, sIf, sRet, sNext, sOwn, sFrz, sDrop, sPar, sPar3, sParOV, sParOO, sParOOO, sStop, mOp, mUn, mVar, mC, mTest, mTru, mIfE, mList, mLst, mStar, mCons, mNil, mTup, mCall, mCallL, mAnd, mOr, mNot, mAndV, mOrV, mNotV, mIter, mSl, mSlL, mPart, mNoPart, mIfL, mCatL, mCatV, gSet, gTupM, gConsM, gNilM, isI, frz, wipeM, lim, isB, its, List.map_cons, List.map_nil, List.length_cons, List.length_nil, List.replicate, List.replicate_zero, List.cons_append, List.nil_append, List.getElem?_cons_zero, List.getElem?_cons_succ, List.set_cons_zero, List.set_cons_succ, Option.bind_some, Option.bind_none, Option.map_some, Option.map_none, if_true, if_false, if_pos, Bool.not_true, Bool.not_false, Bool.false_eq_true, reduceCtorEq, F.file, F.ref, e, e2, tru, Bool.true_and]
    obtain ⟨x', e⟩ := lp_in S T st cs (fun y hy => h y (List.mem_cons_of_mem _ hy)) (pF ps c) (some (.val c)) (pF_ok hk hc) (by have := pF_len (ps := ps) (c := c); omega)
    exact ⟨x', (loop_cons rfl hb).trans e⟩
def passL : List Str → List Stp → List (List Str)
  | _, [] => []
  | ps, s :: r => ps :: passL (s.cs.foldl pF ps) r
theorem foldl_ok : ∀ {cs : List D} {ps : List Str}, OkC cs → OkN ps → OkN (cs.foldl pF ps)
  | [], _, _, h => h
  | c :: cs, ps, h, k => foldl_ok (cs := cs) (fun y hy => h y (List.mem_cons_of_mem _ hy)) (pF_ok k (h c List.mem_cons_self))
theorem foldl_len : ∀ {cs : List D} {ps : List Str}, (cs.foldl pF ps).length ≤ ps.length + cs.length
  | [], ps => by simp
  | c :: cs, ps => by
    have h1 := foldl_len (cs := cs) (ps := pF ps c)
    have h2 := pF_len (ps := ps) (c := c)
    rw [List.foldl_cons, List.length_cons]
    omega
def tot : List Stp → Nat
  | [] => 0
  | s :: r => s.cs.length + 1 + tot r
def OkS (ss : List Stp) : Prop := ∀ s ∈ ss, OkC s.cs
theorem OkS.tl {s : Stp} {r : List Stp} (h : OkS (s :: r)) : OkS r := fun y hy => h y (List.mem_cons_of_mem _ hy)
theorem passL_ok : ∀ {ss : List Stp} {ps : List Str}, OkS ss → OkN ps → ∀ q ∈ passL ps ss, OkN q
  | [], _, _, _, q, h => nomatch h
  | s :: r, ps, h, k, q, hq => by
    rcases List.mem_cons.mp hq with rfl | hq
    · exact k
    · exact passL_ok h.tl (foldl_ok (h s List.mem_cons_self) k) q hq
theorem passL_len : ∀ {ss : List Stp} {ps : List Str}, (passL ps ss).length = ss.length
  | [], _ => rfl
  | s :: r, ps => by show (passL _ r).length + 1 = _; rw [passL_len]; rfl
def bp_out : En → Option Fl :=
  (sSeq (sAppend 1 (mCall dTupOf (mCons (mVar 2) mNil)))
  (sFor (mIter (mOp dIx (mVar 3) (mC (.int 4)))) (gSet 4) bp_in))
theorem st_ix4 (s : Stp) : dIx (stD s) (.int 4) = some (.tuple s.cs) := rfl
theorem st_ix1 (s : Stp) : dIx (stD s) (.int 1) = some (progD s.lib) := rfl
theorem lp_out (S : Option Sl) : ∀ (ss : List Stp), OkS ss → ∀ (T : List D) (ps : List Str) (x3 x4 : Option Sl), OkN ps → ps.length + tot ss ≤ 900 → T.length + ss.length ≤ 900 →
    ∃ p' x3' x4', loop (gSet 3) bp_out (ss.map stD) [S, some (.own T), some (.val (.list (ps.map .str))), x3, x4] = some (.nx [S, some (.own (T ++ (passL ps ss).map tS)), p', x3', x4'])
  | [], _, T, ps, x3, x4, _, _, _ => ⟨_, x3, x4, by rw [show (passL ps []).map tS = [] from rfl, List.append_nil]; rfl⟩
  | s :: r, h, T, ps, x3, x4, hk, hl, ht => by
    rw [show tot (s :: r) = s.cs.length + 1 + tot r from rfl] at hl
    rw [List.length_cons] at ht
    obtain ⟨x', e⟩ := lp_in S (some (.own (T ++ [tS ps]))) (some (.val (stD s))) s.cs (h s List.mem_cons_self) ps x4 hk (by omega)
    have hb : bp_out [S, some (.own T), some (.val (.list (ps.map .str))), some (.val (stD s)), x4] = some (.nx [S, some (.own (T ++ [tS ps])), some (.val (.list ((s.cs.foldl pF ps).map .str))), some (.val (stD s)), x']) := by
      unfold bp_out
      rw [seq_nx (app_of (i := 1) (ds := T) (d := tS ps) rfl rfl (by omega))]
      exact e
    obtain ⟨p', x3', x4', e2⟩ := lp_out S r h.tl (T ++ [tS ps]) (s.cs.foldl pF ps) (some (.val (stD s))) x' (foldl_ok (h s List.mem_cons_self) hk)
      (by have := foldl_len (cs := s.cs) (ps := ps); omega) (by rw [List.length_append]; show T.length + 1 + r.length ≤ 900; omega)
    refine ⟨p', x3', x4', ?_⟩
    rw [List.map_cons, loop_cons rfl hb, e2]
    rw [List.append_assoc]
    rfl
theorem passes_eq (ss : List Stp) (h : OkS ss) (hl : tot ss ≤ 100) (ht : ss.length ≤ 100) : m_passes_of [.tuple (ss.map stD)] = some (.list ((passL [] ss).map tS)) := by
  obtain ⟨p', x3', x4', e⟩ := lp_out (some (.val (.tuple (ss.map stD)))) ss h [] [] none none (fun _ z => nomatch z) (by show 0 + tot ss ≤ 900; omega) (by show 0 + ss.length ≤ 900; omega)
  refine mDef_rt ?_
  unfold b_passes_of
  have s1 : sOwn 1 (mLst mNil) (start0 5 [.tuple (ss.map stD)]) = some (.nx [some (.val (.tuple (ss.map stD))), some (.own []), none, none, none]) := rfl
  have s2 : sAsg (mList (mLst mNil)) (gSet 2) [some (.val (.tuple (ss.map stD))), some (.own []), none, none, none] = some (.nx [some (.val (.tuple (ss.map stD))), some (.own []), some (.val (.list [])), none, none]) := rfl
  have s3 : sFor (mIter (mVar 0)) (gSet 3) bp_out [some (.val (.tuple (ss.map stD))), some (.own []), some (.val (.list [])), none, none] = some (.nx [some (.val (.tuple (ss.map stD))), some (.own ((passL [] ss).map tS)), p', x3', x4']) := e
  refine (seq_nx s1).trans ((seq_nx s2).trans ((seq_nx s3).trans rfl))
/-! the law's own -/
def qF (ps : List Str) (c : D) : List Str := pbF ps (nmOf c) (psOf c)
theorem foldl_q : ∀ (cs : List D) (ps : List Str), (cs.filter fun c => isF c && alOf c).foldl qF ps = cs.foldl pF ps
  | [], _ => rfl
  | c :: cs, ps => by
    cases h : (isF c && alOf c) with
    | true =>
      rw [List.filter_cons_of_pos (by rw [h]), List.foldl_cons, List.foldl_cons, foldl_q cs]
      unfold pF qF
      rw [if_pos h]
    | false =>
      rw [List.filter_cons_of_neg (by rw [h]; exact Bool.false_ne_true), List.foldl_cons, foldl_q cs]
      unfold pF
      rw [if_neg (by rw [h]; exact Bool.false_ne_true)]
def bq_in : En → Option Fl :=
  (sIf (mTest (mOp dEq (mOp dIx (mVar 4) (mC (.int 2))) (mC (.str ("pass" : Str)))))
  (sAsg (mIfE (mTest (mOp (dInX true) (mOp dIx (mOp dIx (mVar 4) (mC (.int 0))) (mC (.int 0))) (mVar 2))) (mList (mCatV (mVar 2) (mLst (mCons (mOp dIx (mOp dIx (mVar 4) (mC (.int 0))) (mC (.int 0))) mNil)))) (mVar 2)) (gSet 2))
  (sAsg (mList (mLc (mIter (mVar 2)) (gSet 5) (mTest (mOp dNe (mVar 5) (mOp dIx (mOp dIx (mVar 4) (mC (.int 0))) (mC (.int 0))))) (mVar 5) [5])) (gSet 2)))
end DD

set_option Elab.async false
set_option linter.all false
set_option maxRecDepth 100000
set_option maxHeartbeats 1000000
namespace DD
open PySem PySem.Spec PyProof.Rows L2
theorem map_idD (l : List D) : l.map (fun d => d) = l := List.map_id' l
/-! ### what is wanted -/
structure Nd where
  a : List Str
  s : List Str
  v : List D
def strOf (v : List D) : List Str := v.filterMap fun d => match d with
  | .str x => some x
  | _ => none
def nF (pd : List Str) (t : Nd) (c : D) : Nd := if isF c = true then
    (if (skOf c && !decide (nmOf c ∈ pd)) = true then ⟨t.a, t.s ++ [nmOf c], t.v ++ [volOf c]⟩ else ⟨t.a ++ [nmOf c], t.s, t.v ++ [volOf c]⟩) else t
def lF (b : Bool) (t : Nd) : Nd := if b = true then ⟨t.a, t.s ++ [("lib" : Str)], t.v⟩ else t
def allF : List Str → List Stp → Nd → Nd
  | _, [], t => t
  | ps, s :: r, t => allF (s.cs.foldl pF ps) r (s.cs.foldl (nF ps) (lF s.lib t))
structure OkT (n : Nat) (t : Nd) : Prop where
  a : OkN t.a
  s : OkN t.s
  v : ∀ d ∈ t.v, d = .none ∨ d = .str "vol"
  la : t.a.length ≤ n
  ls : t.s.length ≤ n
  lv : t.v.length ≤ n
theorem OkT.mono {n m : Nat} {t : Nd} (h : OkT n t) (l : n ≤ m) : OkT m t := ⟨h.a, h.s, h.v, Nat.le_trans h.la l, Nat.le_trans h.ls l, Nat.le_trans h.lv l⟩
theorem nF_ok {pd : List Str} {n : Nat} {t : Nd} {c : D} (h : OkT n t) (k : InC c) : OkT (n + 1) (nF pd t c) := by
  unfold nF
  split
  · rename_i q
    have F := k.cf q
    have vv : ∀ d ∈ t.v ++ [volOf c], d = .none ∨ d = .str "vol" := fun d hd => by
      rcases List.mem_append.mp hd with z | z
      · exact h.v d z
      · rw [List.mem_singleton.mp z]; exact F.okv
    have lv : (t.v ++ [volOf c]).length ≤ n + 1 := by rw [List.length_append]; have := h.lv; exact Nat.succ_le_succ this
    split
    · exact ⟨h.a, h.s.snoc F.okn, vv, Nat.le_succ_of_le h.la, by rw [List.length_append]; exact Nat.succ_le_succ h.ls, lv⟩
    · exact ⟨h.a.snoc F.okn, h.s, vv, by rw [List.length_append]; exact Nat.succ_le_succ h.la, Nat.le_succ_of_le h.ls, lv⟩
  · exact h.mono (Nat.le_succ _)
theorem nFl_ok {pd : List Str} : ∀ {cs : List D} {n : Nat} {t : Nd}, OkC cs → OkT n t → OkT (n + cs.length) (cs.foldl (nF pd) t)
  | [], _, _, _, h => h
  | c :: cs, n, t, k, h => by
    have := nFl_ok (pd := pd) (cs := cs) (n := n + 1) (t := nF pd t c) (fun y hy => k y (List.mem_cons_of_mem _ hy)) (nF_ok h (k c List.mem_cons_self))
    rw [List.length_cons, List.foldl_cons]
    exact this.mono (by omega)
theorem lF_ok {b : Bool} {n : Nat} {t : Nd} (h : OkT n t) : OkT (n + 1) (lF b t) := by
  unfold lF
  split
  · exact ⟨h.a, h.s.snoc (show ("lib" : Str) ∈ nm4 by decide), h.v, Nat.le_succ_of_le h.la, by rw [List.length_append]; exact Nat.succ_le_succ h.ls, Nat.le_succ_of_le h.lv⟩
  · exact h.mono (Nat.le_succ _)
theorem allF_ok : ∀ {ss : List Stp} {ps : List Str} {n : Nat} {t : Nd}, OkS ss → OkT n t → OkT (n + tot ss) (allF ps ss t)
  | [], _, _, _, _, h => h
  | s :: r, ps, n, t, k, h => by
    have h1 := nFl_ok (pd := ps) (k s List.mem_cons_self) (lF_ok (b := s.lib) h)
    exact (allF_ok (ps := s.cs.foldl pF ps) k.tl h1).mono (by show n + 1 + s.cs.length + tot r ≤ n + (s.cs.length + 1 + tot r); omega)
end DD

set_option Elab.async false
set_option linter.all false
set_option maxRecDepth 100000
set_option maxHeartbeats 1000000
namespace DD
open PySem PySem.Spec PyProof.Rows L2
/-! ### needs_of -/
theorem lt_cap {α β : Type} {f : α → β} {l : List α} {n : Nat} (h : l.length ≤ n) (k : n ≤ 900) : (l.map f).length < cap := by
  rw [List.length_map]
  exact Nat.lt_of_le_of_lt (Nat.le_trans h k) (by decide)
theorem lt_cap0 {α : Type} {l : List α} {n : Nat} (h : l.length ≤ n) (k : n ≤ 900) : l.length < cap := Nat.lt_of_le_of_lt (Nat.le_trans h k) (by decide)
def bn_in : En → Option Fl :=
  (sIf (mTru (mCall (lim 1 m_is_for_file) (mCons (mVar 7) mNil)))
  (sSeq (sAsg (mOp dIx (mVar 7) (mC (.int 0))) (gSet 8))
  (sSeq (sAli 9 (mAnd (mTru (mCall (lim 1 m_is_shared_kept) (mCons (mVar 7) mNil))) (mTest (mOp (dInX true) (mOp dIx (mVar 8) (mC (.int 0))) (mVar 5)))) 2 1 (mOp dIx (mVar 8) (mC (.int 0))))
  (sAppend 3 (mOp dIx (mVar 8) (mC (.int 3))))))
  sNext)
theorem ninX_tS (n : Str) (l : List Str) : dInX true (.str n) (tS l) = some (.bool (!decide (n ∈ l))) := ninX_t n l
theorem bn_step (S st lb x8 x9 : Option Sl) (pd : List Str) (t : Nd) (c : D) (n : Nat) (hn : n ≤ 800) (ht : OkT n t) (hc : InC c) :
    ∃ x8' x9', bn_in [S, some (.own (t.a.map .str)), some (.own (t.s.map .str)), some (.own t.v), st, some (.val (tS pd)), lb, some (.val c), x8, x9, none, none] =
      some (.nx [S, some (.own ((nF pd t c).a.map .str)), some (.own ((nF pd t c).s.map .str)), some (.own (nF pd t c).v), st, some (.val (tS pd)), lb, some (.val c), x8', x9', none, none]) := by
  have la : (t.a.map PyData.str).length < cap := lt_cap ht.la (by omega)
  have ls : (t.s.map PyData.str).length < cap := lt_cap ht.ls (by omega)
  have lv : t.v.length < cap := lt_cap0 ht.lv (by omega)
  unfold nF
  cases hf : isF c with
  | false =>
    have e := hc.file
    rw [hf] at e
    refine ⟨x8, x9, ?_⟩
    simp only [bn_in, sSeq, sAsg, sIf, sRet, sNext, sOwn, sFrz, sDrop, sPar, sPar3, sParOV, sParOO, sParOOO, sStop, mOp, mUn, mVar, mC, mTest, mTru, mIfE, mList, mLst, mStar, mCons, mNil, mTup, mCall, mCallL, mAnd, mOr, mNot, mAndV, mOrV, mNotV, mIter, mSl, mSlL, mPart, mNoPart, mIfL, mCatL, mCatV, gSet, gTupM, gConsM, gNilM, isI, frz, wipeM, lim, isB, its, List.map_cons, List.map_nil, List.length_cons, List.length_nil, List.replicate, List.replicate_zero, List.cons_append, List.nil_append, List.getElem?_cons_zero, List.getElem?_cons_succ, List.set_cons_zero, List.set_cons_succ, Option.bind_some, Option.bind_none, Option.map_some, Option.map_none, if_true, if_false, if_pos, Bool.not_true, Bool.not_false, Bool.false_eq_true, reduceCtorEq, e, tru]
  | true =>
    have F := hc.cf hf
    refine ⟨some (.val (refOf c)), none, ?_⟩
    cases hs : skOf c with
    | false =>
      have e := F.sk
      rw [hs] at e
      simp only [bn_in, sAli, sAppend, sSeq, sAsg, sIf, sRet, sNext, sOwn, sFrz, sDrop, sPar, sPar3, sParOV, sParOO, sParOOO, sStop, mOp, mUn, mVar, mC, mTest, mTru, mIfE, mList, mLst, mStar, mCons, mNil, mTup, mCall, mCallL, mAnd, mOr, mNot, mAndV, mOrV, mNotV, mIter, mSl, mSlL, mPart, mNoPart, mIfL, mCatL, mCatV, gSet, gTupM, gConsM, gNilM, isI, frz, wipeM, lim, isB, its, List.map_cons, List.map_nil, List.length_cons, List.length_nil, List.replicate, List.replicate_zero, List.cons_append, List.nil_append, List.getElem?_cons_zero, List.getElem?_cons_succ, List.set_cons_zero, List.set_cons_succ, Option.bind_some, Option.bind_none, Option.map_some, Option.map_none, if_true, if_false, if_pos, Bool.not_true, Bool.not_false, Bool.false_eq_true, reduceCtorEq, F.file, F.ref, e, F.nm, F.vol, tru, Bool.false_and, la, lv, Nat.reduceLT, Nat.reduceAdd, List.map_append]
    | true =>
      have e := F.sk
      rw [hs] at e
      by_cases hi : nmOf c ∈ pd
      · simp only [bn_in, sAli, sAppend, sSeq, sAsg, sIf, sRet, sNext, sOwn, sFrz, sDrop, sPar, sPar3, sParOV, sParOO, sParOOO, sStop, mOp, mUn, mVar, mC, mTest, mTru, mIfE, mList, mLst, mStar, mCons, mNil, mTup, mCall, mCallL, mAnd, mOr, mNot, mAndV, mOrV, mNotV, mIter, mSl, mSlL, mPart, mNoPart, mIfL, mCatL, mCatV, gSet, gTupM, gConsM, gNilM, isI, frz, wipeM, lim, isB, its, List.map_cons, List.map_nil, List.length_cons, List.length_nil, List.replicate, List.replicate_zero, List.cons_append, List.nil_append, List.getElem?_cons_zero, List.getElem?_cons_succ, List.set_cons_zero, List.set_cons_succ, Option.bind_some, Option.bind_none, Option.map_some, Option.map_none, if_true, if_false, if_pos, Bool.not_true, Bool.not_false, Bool.false_eq_true, reduceCtorEq, F.file, F.ref, e, F.nm, F.vol, tru, ninX_tS, hi, decide_true, Bool.true_and, la, lv, Nat.reduceLT, Nat.reduceAdd, List.map_append]
      · simp only [bn_in, sAli, sAppend, sSeq, sAsg, sIf, sRet, sNext, sOwn, sFrz, sDrop, sPar, sPar3, sParOV, sParOO, sParOOO, sStop, mOp, mUn, mVar, mC, mTest, mTru, mIfE, mList, mLst, mStar, mCons, mNil, mTup, mCall, mCallL, mAnd, mOr, mNot, mAndV, mOrV, mNotV, mIter, mSl, mSlL, mPart, mNoPart, mIfL, mCatL, mCatV, gSet, gTupM, gConsM, gNilM, isI, frz, wipeM, lim, isB, its, List.map_cons, List.map_nil, List.length_cons, List.length_nil, List.replicate, List.replicate_zero, List.cons_append, List.nil_append, List.getElem?_cons_zero, List.getElem?_cons_succ, List.set_cons_zero, List.set_cons_succ, Option.bind_some, Option.bind_none, Option.map_some, Option.map_none, if_true, if_false, if_pos, Bool.not_true, Bool.not_false, Bool.false_eq_true, reduceCtorEq, F.file, F.ref, e, F.nm, F.vol, tru, ninX_tS, hi, decide_false, Bool.true_and, ls, lv, Nat.reduceLT, Nat.reduceAdd, List.map_append]
theorem ln_in (S st lb : Option Sl) (pd : List Str) : ∀ (cs : List D), OkC cs → ∀ (t : Nd) (n : Nat) (x7 x8 x9 : Option Sl), n + cs.length ≤ 800 → OkT n t →
    ∃ x7' x8' x9', loop (gSet 7) bn_in cs [S, some (.own (t.a.map .str)), some (.own (t.s.map .str)), some (.own t.v), st, some (.val (tS pd)), lb, x7, x8, x9, none, none] =
      some (.nx [S, some (.own ((cs.foldl (nF pd) t).a.map .str)), some (.own ((cs.foldl (nF pd) t).s.map .str)), some (.own (cs.foldl (nF pd) t).v), st, some (.val (tS pd)), lb, x7', x8', x9', none, none])
  | [], _, t, n, x7, x8, x9, _, _ => ⟨x7, x8, x9, rfl⟩
  | c :: cs, h, t, n, x7, x8, x9, hl, ht => by
    have hc := h c List.mem_cons_self
    rw [List.length_cons] at hl
    obtain ⟨y8, y9, hb⟩ := bn_step S st lb x8 x9 pd t c n (by omega) ht hc
    obtain ⟨x7', x8', x9', e⟩ := ln_in S st lb pd cs (fun y hy => h y (List.mem_cons_of_mem _ hy)) (nF pd t c) (n + 1) (some (.val c)) y8 y9 (by omega) (nF_ok ht hc)
    exact ⟨x7', x8', x9', (loop_cons rfl hb).trans e⟩
def bn_out : En → Option Fl :=
  (sSeq (sAsg (mCall (lim 1 m_library_of) (mCons (mOp dIx (mVar 4) (mC (.int 1))) mNil)) (gSet 6))
  (sSeq (sIf (mTest (mOp dIsNot (mVar 6) (mC .none)))
  (sAppend 2 (mVar 6))
  sNext)
  (sFor (mIter (mOp dIx (mVar 4) (mC (.int 4)))) (gSet 7) bn_in)))
theorem lib_of : m_library_of [progD true] = some (.str "lib") ∧ m_library_of [progD false] = some .none := ⟨by kernel_rfl, by kernel_rfl⟩
abbrev gPair (i j : Nat) : D → En → Option En := gTupM 2 (gConsM (gSet i) (gConsM (gSet j) gNilM))
theorem bn_step2 (S x6 x7 x8 x9 : Option Sl) (pd : List Str) (t : Nd) (s : Stp) (n : Nat) (hn : n + 1 + s.cs.length ≤ 800) (ht : OkT n t) (hc : OkC s.cs) :
    ∃ x6' x7' x8' x9', bn_out [S, some (.own (t.a.map .str)), some (.own (t.s.map .str)), some (.own t.v), some (.val (stD s)), some (.val (tS pd)), x6, x7, x8, x9, none, none] =
      some (.nx [S, some (.own ((s.cs.foldl (nF pd) (lF s.lib t)).a.map .str)), some (.own ((s.cs.foldl (nF pd) (lF s.lib t)).s.map .str)), some (.own (s.cs.foldl (nF pd) (lF s.lib t)).v), some (.val (stD s)), some (.val (tS pd)), x6', x7', x8', x9', none, none]) := by
  have ls : (t.s.map PyData.str).length < cap := lt_cap ht.ls (by omega)
  have hlib : ∃ lb, (sSeq (sAsg (mCall (lim 1 m_library_of) (mCons (mOp dIx (mVar 4) (mC (.int 1))) mNil)) (gSet 6)) (sIf (mTest (mOp dIsNot (mVar 6) (mC .none))) (sAppend 2 (mVar 6)) sNext))
      [S, some (.own (t.a.map .str)), some (.own (t.s.map .str)), some (.own t.v), some (.val (stD s)), some (.val (tS pd)), x6, x7, x8, x9, none, none] =
      some (.nx [S, some (.own ((lF s.lib t).a.map .str)), some (.own ((lF s.lib t).s.map .str)), some (.own (lF s.lib t).v), some (.val (stD s)), some (.val (tS pd)), lb, x7, x8, x9, none, none]) := by
    cases hb : s.lib with
    | true =>
      have e := st_ix1 s
      rw [hb] at e
      have e2 : dIsNot (.str "lib") .none = some (.bool true) := rfl
      refine ⟨some (.val (.str "lib")), ?_⟩
      simp only [sAppend, sSeq, sAsg, sIf, sRet, sNext, sOwn, sFrz, sDrop, sPar, sPar3, sParOV, sParOO, sParOOO, sStop, mOp, mUn, mVar, mC, mTest, mTru, mIfE, mList, mLst, mStar, mCons, mNil, mTup, mCall, mCallL, mAnd, mOr, mNot, mAndV, mOrV, mNotV, mIter, mSl, mSlL, mPart, mNoPart, mIfL, mCatL, mCatV, gSet, gTupM, gConsM, gNilM, isI, frz, wipeM, lim, isB, its, List.map_cons, List.map_nil, List.length_cons, List.length_nil, List.replicate, List.replicate_zero, List.cons_append, List.nil_append, List.getElem?_cons_zero, List.getElem?_cons_succ, List.set_cons_zero, List.set_cons_succ, Option.bind_some, Option.bind_none, Option.map_some, Option.map_none, if_true, if_false, if_pos, Bool.not_true, Bool.not_false, Bool.false_eq_true, reduceCtorEq, e, lib_of.1, e2, ls, lF, List.map_append]
    | false =>
      have e := st_ix1 s
      rw [hb] at e
      have e2 : dIsNot .none .none = some (.bool false) := rfl
      refine ⟨some (.val .none), ?_⟩
      simp only [sAppend, sSeq, sAsg, sIf, sRet, sNext, sOwn, sFrz, sDrop, sPar, sPar3, sParOV, sParOO, sParOOO, sStop, mOp, mUn, mVar, mC, mTest, mTru, mIfE, mList, mLst, mStar, mCons, mNil, mTup, mCall, mCallL, mAnd, mOr, mNot, mAndV, mOrV, mNotV, mIter, mSl, mSlL, mPart, mNoPart, mIfL, mCatL, mCatV, gSet, gTupM, gConsM, gNilM, isI, frz, wipeM, lim, isB, its, List.map_cons, List.map_nil, List.length_cons, List.length_nil, List.replicate, List.replicate_zero, List.cons_append, List.nil_append, List.getElem?_cons_zero, List.getElem?_cons_succ, List.set_cons_zero, List.set_cons_succ, Option.bind_some, Option.bind_none, Option.map_some, Option.map_none, if_true, if_false, if_pos, Bool.not_true, Bool.not_false, Bool.false_eq_true, reduceCtorEq, e, lib_of.2, e2, lF]
  obtain ⟨lb, e1⟩ := hlib
  obtain ⟨x7', x8', x9', e2⟩ := ln_in S (some (.val (stD s))) lb pd s.cs hc (lF s.lib t) (n + 1) x7 x8 x9 (by omega) (lF_ok ht)
  refine ⟨lb, x7', x8', x9', ?_⟩
  unfold bn_out
  obtain ⟨f1, h1, h2⟩ := bind_some e1
  cases f1 with
  | nx ρ1 =>
    rw [seq_nx h1, seq_nx h2]
    exact e2
  | rt d => cases h2
  | bk ρ1 => cases h2
  | ct ρ1 => cases h2
theorem ln_out (S : Option Sl) : ∀ (ss : List Stp), OkS ss → ∀ (ps : List Str) (t : Nd) (n : Nat) (x4 x5 x6 x7 x8 x9 : Option Sl), n + tot ss ≤ 800 → OkT n t →
    ∃ x4' x5' x6' x7' x8' x9', loop (gPair 4 5) bn_out (pairs (ss.map stD) ((passL ps ss).map tS)) [S, some (.own (t.a.map .str)), some (.own (t.s.map .str)), some (.own t.v), x4, x5, x6, x7, x8, x9, none, none] =
      some (.nx [S, some (.own ((allF ps ss t).a.map .str)), some (.own ((allF ps ss t).s.map .str)), some (.own (allF ps ss t).v), x4', x5', x6', x7', x8', x9', none, none])
  | [], _, ps, t, n, x4, x5, x6, x7, x8, x9, _, _ => ⟨x4, x5, x6, x7, x8, x9, rfl⟩
  | s :: r, h, ps, t, n, x4, x5, x6, x7, x8, x9, hl, ht => by
    rw [show tot (s :: r) = s.cs.length + 1 + tot r from rfl] at hl
    have hs := h s List.mem_cons_self
    obtain ⟨y6, y7, y8, y9, hb⟩ := bn_step2 S x6 x7 x8 x9 ps t s n (by omega) ht hs
    obtain ⟨x4', x5', x6', x7', x8', x9', e⟩ := ln_out S r h.tl (s.cs.foldl pF ps) (s.cs.foldl (nF ps) (lF s.lib t)) (n + 1 + s.cs.length) (some (.val (stD s))) (some (.val (tS ps))) y6 y7 y8 y9 (by omega) (nFl_ok hs (lF_ok ht))
    exact ⟨x4', x5', x6', x7', x8', x9', (loop_cons rfl hb).trans e⟩
theorem rising_eq {l : List Str} (h : l.length < 63) : m__rising [.list (l.map .str)] = some (tS (ssetS l)) := by
  refine mDef_rt (ret_of ?_)
  show mCall dTupOf (mCons (mList (mSortTx (mVar 0))) mNil) (start0 1 [.list (l.map .str)]) = _
  rw [call_of (cons_of (list_of (sortTx_of (ns := l) rfl h)) nil_of)]
  rfl
theorem strOf_map : ∀ {v : List D}, (∀ d ∈ v, d = .none ∨ d = .str "vol") → (v.filter fun d => match d with | .none => false | _ => true) = (strOf v).map .str
  | [], _ => rfl
  | d :: r, h => by
    have ih := strOf_map (v := r) fun x hx => h x (List.mem_cons_of_mem _ hx)
    rcases h d List.mem_cons_self with rfl | rfl
    · rw [List.filter_cons_of_neg (by decide), ih]; rfl
    · rw [List.filter_cons_of_pos rfl, ih]; rfl
theorem strOf_len (v : List D) : (strOf v).length ≤ v.length := List.length_filterMap_le _ _
def nd0 : Nd := ⟨[], [], []⟩
def nds (ss : List Stp) : Nd := allF [] ss nd0
def oneF (t : Nd) : List Str := t.s.filter fun n => !decide (n ∈ t.a)
def needsD (t : Nd) : D := .tuple [tS (ssetS t.a), tS (ssetS (oneF t)), tS (ssetS (strOf t.v))]
theorem ok0 : OkT 0 nd0 := ⟨fun _ z => (nomatch z), fun _ z => (nomatch z), fun _ z => (nomatch z), Nat.le_refl _, Nat.le_refl _, Nat.le_refl _⟩
theorem zip_eq {xs ys : List D} {m1 m2 : En → Option D} {ρ : En} (h1 : m1 ρ = some (.tuple xs)) (h2 : m2 ρ = some (.list ys)) : mZip (mCons m1 (mCons m2 mNil)) ρ = some (pairs xs ys) := by
  unfold mZip
  rw [cons_of h1 (cons_of h2 nil_of)]
  rfl
theorem needs_eq (ss : List Stp) (h : OkS ss) (hl : tot ss ≤ 60) (ht : ss.length ≤ 100) : m_needs_of [.tuple (ss.map stD)] = some (needsD (nds ss)) := by
  obtain ⟨x4, x5, x6, x7, x8, x9, e⟩ := ln_out (some (.val (.tuple (ss.map stD)))) ss h [] nd0 0 none none none none none none (by omega) ok0
  have K := allF_ok (ps := []) h ok0
  have ka : (nds ss).a.length ≤ 60 := Nat.le_trans K.la (by omega)
  have ks : (nds ss).s.length ≤ 60 := Nat.le_trans K.ls (by omega)
  have kv : (nds ss).v.length ≤ 60 := Nat.le_trans K.lv (by omega)
  have kv2 : ∀ d ∈ (nds ss).v, d = .none ∨ d = .str "vol" := K.v
  have e' : sFor (mZip (mCons (mVar 0) (mCons (mCall (lim 1 m_passes_of) (mCons (mVar 0) mNil)) mNil))) (gPair 4 5) bn_out [some (.val (.tuple (ss.map stD))), some (.own []), some (.own []), some (.own []), none, none, none, none, none, none, none, none] =
      some (.nx [some (.val (.tuple (ss.map stD))), some (.own ((nds ss).a.map .str)), some (.own ((nds ss).s.map .str)), some (.own (nds ss).v), x4, x5, x6, x7, x8, x9, none, none]) := by
    show (mZip _ _).bind _ = _
    have hp : mCall (lim 1 m_passes_of) (mCons (mVar 0) mNil) [some (.val (.tuple (ss.map stD))), some (.own []), some (.own []), some (.own []), none, none, none, none, none, none, none, none] = some (.list ((passL [] ss).map tS)) := passes_eq ss h (by omega) ht
    rw [zip_eq (xs := ss.map stD) (ys := (passL [] ss).map tS) rfl hp]
    exact e
  generalize nds ss = t at ka ks kv kv2 e'
  refine mDef_rt ?_
  unfold b_needs_of
  have s1 : sOwn 1 (mLst mNil) (start0 12 [.tuple (ss.map stD)]) = some (.nx [some (.val (.tuple (ss.map stD))), some (.own []), none, none, none, none, none, none, none, none, none, none]) := rfl
  have s2 : sOwn 2 (mLst mNil) [some (.val (.tuple (ss.map stD))), some (.own []), none, none, none, none, none, none, none, none, none, none] = some (.nx [some (.val (.tuple (ss.map stD))), some (.own []), some (.own []), none, none, none, none, none, none, none, none, none]) := rfl
  have s3 : sOwn 3 (mLst mNil) [some (.val (.tuple (ss.map stD))), some (.own []), some (.own []), none, none, none, none, none, none, none, none, none] = some (.nx [some (.val (.tuple (ss.map stD))), some (.own []), some (.own []), some (.own []), none, none, none, none, none, none, none, none]) := rfl
  refine (seq_nx s1).trans ((seq_nx s2).trans ((seq_nx s3).trans ((seq_nx e').trans ?_)))
  have f1 : mLc (mIter (mVar 2)) (gSet 10) (mTest (mOp (dInX true) (mVar 10) (mVar 1))) (mVar 10) [10] [some (.val (.tuple (ss.map stD))), some (.val (.list (t.a.map .str))), some (.val (.list (t.s.map .str))), some (.own t.v), x4, x5, x6, x7, x8, x9, none, none] = some ((oneF t).map .str) :=
    lc_strs (l := t.s) rfl (cap_s (by omega)) fun m hm => ⟨_, rfl, by
      show mTest (mOp (dInX true) (mVar 10) (mVar 1)) [some (.val (.tuple (ss.map stD))), some (.val (.list (t.a.map .str))), some (.val (.list (t.s.map .str))), some (.own t.v), x4, x5, x6, x7, x8, x9, some (.val (.str m)), none] = _
      exact test_of ((op_of rfl rfl).trans (ninX_l m t.a)), rfl⟩
  have s5 : (sFrz 1 (sFrz 2 (sOwn 2 (mLc (mIter (mVar 2)) (gSet 10) (mTest (mOp (dInX true) (mVar 10) (mVar 1))) (mVar 10) [10])))) [some (.val (.tuple (ss.map stD))), some (.own (t.a.map .str)), some (.own (t.s.map .str)), some (.own t.v), x4, x5, x6, x7, x8, x9, none, none] =
      some (.nx [some (.val (.tuple (ss.map stD))), some (.val (.list (t.a.map .str))), some (.own ((oneF t).map .str)), some (.own t.v), x4, x5, x6, x7, x8, x9, none, none]) := by
    show (mLc _ _ _ _ _ [some (.val (.tuple (ss.map stD))), some (.val (.list (t.a.map .str))), some (.val (.list (t.s.map .str))), some (.own t.v), x4, x5, x6, x7, x8, x9, none, none]).map _ = _
    rw [f1]
    rfl
  have f2 : mLc (mIter (mVar 3)) (gSet 11) (mTest (mOp dIsNot (mVar 11) (mC .none))) (mVar 11) [11] [some (.val (.tuple (ss.map stD))), some (.val (.list (t.a.map .str))), some (.own ((oneF t).map .str)), some (.val (.list t.v)), x4, x5, x6, x7, x8, x9, none, none] = some ((strOf t.v).map .str) := by
    rw [← strOf_map kv2, ← map_idD (t.v.filter _)]
    refine lc_if (ds := t.v) (f := fun d => d) rfl (cap_s (by omega)) fun d hd => ⟨_, rfl, ?_, fun _ => rfl⟩
    rcases kv2 d hd with rfl | rfl
    · rfl
    · rfl
  have s6 : (sFrz 3 (sOwn 3 (mLc (mIter (mVar 3)) (gSet 11) (mTest (mOp dIsNot (mVar 11) (mC .none))) (mVar 11) [11]))) [some (.val (.tuple (ss.map stD))), some (.val (.list (t.a.map .str))), some (.own ((oneF t).map .str)), some (.own t.v), x4, x5, x6, x7, x8, x9, none, none] =
      some (.nx [some (.val (.tuple (ss.map stD))), some (.val (.list (t.a.map .str))), some (.own ((oneF t).map .str)), some (.own ((strOf t.v).map .str)), x4, x5, x6, x7, x8, x9, none, none]) := by
    show (mLc _ _ _ _ _ [some (.val (.tuple (ss.map stD))), some (.val (.list (t.a.map .str))), some (.own ((oneF t).map .str)), some (.val (.list t.v)), x4, x5, x6, x7, x8, x9, none, none]).map _ = _
    rw [f2]
    rfl
  refine (seq_nx s5).trans ((seq_nx s6).trans ?_)
  have r1 := rising_eq (l := t.a) (by omega)
  have r2 := rising_eq (l := oneF t) (Nat.lt_of_le_of_lt (List.length_filter_le _ _) (by omega))
  have r3 := rising_eq (l := strOf t.v) (Nat.lt_of_le_of_lt (strOf_len _) (by omega))
  have hz : ∀ a b c : D, sized [a, b, c] = some [a, b, c] := fun _ _ _ => rfl
  simp only [sSeq, sAsg, sIf, sRet, sNext, sOwn, sFrz, sDrop, sPar, sPar3, sParOV, sParOO, sParOOO, sStop, mOp, mUn, mVar, mC, mTest, mTru, mIfE, mList, mLst, mStar, mCons, mNil, mTup, mCall, mCallL, mAnd, mOr, mNot, mAndV, mOrV, mNotV, mIter, mSl, mSlL, mPart, mNoPart, mIfL, mCatL, mCatV, gSet, gTupM, gConsM, gNilM, isI, frz, wipeM, lim, isB, its, List.map_cons, List.map_nil, List.length_cons, List.length_nil, List.replicate, List.replicate_zero, List.cons_append, List.nil_append, List.getElem?_cons_zero, List.getElem?_cons_succ, List.set_cons_zero, List.set_cons_succ, Option.bind_some, Option.bind_none, Option.map_some, Option.map_none, if_true, if_false, if_pos, Bool.not_true, Bool.not_false, Bool.false_eq_true, reduceCtorEq, r1, r2, r3, hz, needsD]
end DD

set_option Elab.async false
set_option linter.all false
set_option maxRecDepth 100000
set_option maxHeartbeats 1000000
namespace DD
open PySem PySem.Spec PyProof.Rows L2
/-! ### sets of texts, in a row -/
theorem fold_mem {z : Str} : ∀ {xs m : List Str}, z ∈ xs.foldl addS m ↔ z ∈ m ∨ z ∈ xs
  | [], m => by simp
  | x :: xs, m => by
    rw [List.foldl_cons, fold_mem (xs := xs), addS_mem, List.mem_cons]
    exact or_assoc
theorem fold_nd : ∀ {xs m : List Str}, m.Nodup → (xs.foldl addS m).Nodup
  | [], _, h => h
  | x :: xs, m, h => fold_nd (xs := xs) (addS_nd h)
theorem nub_mem {z : Str} {xs : List Str} : z ∈ nubS xs ↔ z ∈ xs := by
  unfold nubS
  rw [fold_mem]
  simp
theorem nub_nd (xs : List Str) : (nubS xs).Nodup := fold_nd List.nodup_nil
theorem sset_memS {z : Str} {xs : List Str} : z ∈ ssetS xs ↔ z ∈ xs := by
  unfold ssetS
  rw [(sortS_perm _).mem_iff, nub_mem]
theorem sset_nd (xs : List Str) : (ssetS xs).Nodup := (sortS_perm _).nodup_iff.mpr (nub_nd xs)
theorem sset_pw (xs : List Str) : (ssetS xs).Pairwise (fun a b => leS a b = true) := sortS_sorted _
theorem sset_uniq {xs ys : List Str} (h : ys.Pairwise (fun a b => leS a b = true)) (d : ys.Nodup) (m : ∀ z, z ∈ ys ↔ z ∈ xs) : ys = ssetS xs :=
  List.Perm.eq_of_pairwise (fun a b _ _ x y => leS_anti x y) h (sset_pw xs) ((List.perm_ext_iff_of_nodup d (sset_nd xs)).mpr fun z => by rw [m, sset_memS])
theorem sset_filter (p : Str → Bool) (xs : List Str) : (ssetS xs).filter p = ssetS (xs.filter p) :=
  sset_uniq ((sset_pw xs).filter _) ((sset_nd xs).filter _) fun z => by rw [List.mem_filter, List.mem_filter, sset_memS]
end DD

set_option Elab.async false
set_option linter.all false
set_option maxRecDepth 100000
set_option maxHeartbeats 2000000
namespace DD
open PySem PySem.Spec PyProof.Rows L2
/-! ### any six texts, read as a card and written -/
theorem sz0 : sized ([] : List D) = some [] := rfl
theorem sz1 (a : D) : sized [a] = some [a] := rfl
theorem sz2 (a b : D) : sized [a, b] = some [a, b] := rfl
theorem sz3 (a b c : D) : sized [a, b, c] = some [a, b, c] := rfl
theorem sz4 (a b c d : D) : sized [a, b, c, d] = some [a, b, c, d] := rfl
theorem sz6 (a b c d e f : D) : sized [a, b, c, d, e, f] = some [a, b, c, d, e, f] := rfl
structure Tk (z : Str) : Prop where
  ok : PyData.strOk z = true
  le : z.length ≤ 1000
theorem Tk.cap {z : Str} (h : Tk z) : z.length ≤ cap := Nat.le_trans h.le (by decide)
theorem name_b {z : Str} (h : Tk z) : ∃ b, m_is_name [.str z] = some (.bool b) := ⟨_, R.name_eq (.str z) h.cap⟩
theorem dash_ok : PyData.strOk "-" = true := by decide +kernel
theorem read_part {z : Str} (h : Tk z) : m__read_part [.str z] = some (if z = "-" then .none else .str z) := by
  refine mDef_rt ?_
  have e := dEq_str h.ok dash_ok
  by_cases c : z = "-"
  · rw [if_pos c]
    rw [decide_eq_true c] at e
    simp only [b__read_part, start0, sSeq, sAsg, sIf, sRet, sNext, sOwn, sFrz, sDrop, sPar, sPar3, sParOV, sParOO, sParOOO, sStop, mOp, mUn, mVar, mC, mTest, mTru, mIfE, mList, mLst, mStar, mCons, mNil, mTup, mCall, mCallL, mAnd, mOr, mNot, mAndV, mOrV, mNotV, mIter, mSl, mSlL, mPart, mNoPart, mIfL, mCatL, mCatV, gSet, gTupM, gConsM, gNilM, isI, frz, wipeM, lim, isB, its, List.map_cons, List.map_nil, List.length_cons, List.length_nil, List.replicate, List.replicate_zero, List.cons_append, List.nil_append, List.getElem?_cons_zero, List.getElem?_cons_succ, List.set_cons_zero, List.set_cons_succ, Option.bind_some, Option.bind_none, Option.map_some, Option.map_none, if_true, if_false, if_pos, Bool.not_true, Bool.not_false, Bool.false_eq_true, reduceCtorEq, e]
  · rw [if_neg c]
    rw [decide_eq_false c] at e
    simp only [b__read_part, start0, sSeq, sAsg, sIf, sRet, sNext, sOwn, sFrz, sDrop, sPar, sPar3, sParOV, sParOO, sParOOO, sStop, mOp, mUn, mVar, mC, mTest, mTru, mIfE, mList, mLst, mStar, mCons, mNil, mTup, mCall, mCallL, mAnd, mOr, mNot, mAndV, mOrV, mNotV, mIter, mSl, mSlL, mPart, mNoPart, mIfL, mCatL, mCatV, gSet, gTupM, gConsM, gNilM, isI, frz, wipeM, lim, isB, its, List.map_cons, List.map_nil, List.length_cons, List.length_nil, List.replicate, List.replicate_zero, List.cons_append, List.nil_append, List.getElem?_cons_zero, List.getElem?_cons_succ, List.set_cons_zero, List.set_cons_succ, Option.bind_some, Option.bind_none, Option.map_some, Option.map_none, if_true, if_false, if_pos, Bool.not_true, Bool.not_false, Bool.false_eq_true, reduceCtorEq, e]
def gen10 : List Int := [-8, -7, -6, -5, -4, -3, -2, -1, 0, 1]
theorem gen10_ok : gen10.all (fun i => PyData.strOk (strI i) && decide ((strI i).length ≤ 10)) = true := by decide +kernel
theorem gen_str {i : Int} (h : i ∈ gen10) : dStrA [.int i] = some (.str (strI i)) := by
  unfold gen10 at h
  simp only [List.mem_cons, List.mem_nil_iff, or_false] at h
  rcases h with rfl | rfl | rfl | rfl | rfl | rfl | rfl | rfl | rfl | rfl <;> rfl
def bg_in : En → Option Fl :=
  (sIf (mTest (mOp dEq (mVar 0) (mCall dStrA (mCons (mVar 1) mNil))))
  (sRet (mVar 1))
  sNext)
theorem lg_in {z : Str} (h : Tk z) : ∀ (is : List Int), (∀ i ∈ is, i ∈ gen10) → ∀ x : Option Sl,
    (∃ i ∈ gen10, z = strI i ∧ loop (gSet 1) bg_in (is.map .int) [some (.val (.str z)), x] = some (.rt (.int i))) ∨ ∃ y, loop (gSet 1) bg_in (is.map .int) [some (.val (.str z)), x] = some (.nx [some (.val (.str z)), y])
  | [], _, x => .inr ⟨x, rfl⟩
  | i :: is, hi, x => by
    have i1 := hi i List.mem_cons_self
    have o := List.all_eq_true.mp gen10_ok i i1
    rw [Bool.and_eq_true] at o
    have e := dEq_str h.ok o.1
    have s := gen_str i1
    by_cases c : z = strI i
    · rw [decide_eq_true c] at e
      have hb : bg_in [some (.val (.str z)), some (.val (.int i))] = some (.rt (.int i)) := by simp only [bg_in, sSeq, sAsg, sIf, sRet, sNext, sOwn, sFrz, sDrop, sPar, sPar3, sParOV, sParOO, sParOOO, sStop, mOp, mUn, mVar, mC, mTest, mTru, mIfE, mList, mLst, mStar, mCons, mNil, mTup, mCall, mCallL, mAnd, mOr, mNot, mAndV, mOrV, mNotV, mIter, mSl, mSlL, mPart, mNoPart, mIfL, mCatL, mCatV, gSet, gTupM, gConsM, gNilM, isI, frz, wipeM, lim, isB, its, List.map_cons, List.map_nil, List.length_cons, List.length_nil, List.replicate, List.replicate_zero, List.cons_append, List.nil_append, List.getElem?_cons_zero, List.getElem?_cons_succ, List.set_cons_zero, List.set_cons_succ, Option.bind_some, Option.bind_none, Option.map_some, Option.map_none, if_true, if_false, if_pos, Bool.not_true, Bool.not_false, Bool.false_eq_true, reduceCtorEq, s, e]
      refine .inl ⟨i, i1, c, ?_⟩
      show ((gSet 1 (.int i) [some (.val (.str z)), x]).bind fun ρ1 => (bg_in ρ1).bind fun f => match f with
        | .nx ρ2 => loop (gSet 1) bg_in (is.map .int) ρ2
        | .ct ρ2 => loop (gSet 1) bg_in (is.map .int) ρ2
        | .bk ρ2 => some (.nx ρ2)
        | .rt d => some (.rt d)) = _
      show ((bg_in [some (.val (.str z)), some (.val (.int i))]).bind fun f => _) = _
      rw [hb]
      rfl
    · rw [decide_eq_false c] at e
      have hb : bg_in [some (.val (.str z)), some (.val (.int i))] = some (.nx [some (.val (.str z)), some (.val (.int i))]) := by simp only [bg_in, sSeq, sAsg, sIf, sRet, sNext, sOwn, sFrz, sDrop, sPar, sPar3, sParOV, sParOO, sParOOO, sStop, mOp, mUn, mVar, mC, mTest, mTru, mIfE, mList, mLst, mStar, mCons, mNil, mTup, mCall, mCallL, mAnd, mOr, mNot, mAndV, mOrV, mNotV, mIter, mSl, mSlL, mPart, mNoPart, mIfL, mCatL, mCatV, gSet, gTupM, gConsM, gNilM, isI, frz, wipeM, lim, isB, its, List.map_cons, List.map_nil, List.length_cons, List.length_nil, List.replicate, List.replicate_zero, List.cons_append, List.nil_append, List.getElem?_cons_zero, List.getElem?_cons_succ, List.set_cons_zero, List.set_cons_succ, Option.bind_some, Option.bind_none, Option.map_some, Option.map_none, if_true, if_false, if_pos, Bool.not_true, Bool.not_false, Bool.false_eq_true, reduceCtorEq, s, e]
      rcases lg_in h is (fun j hj => hi j (List.mem_cons_of_mem _ hj)) (some (.val (.int i))) with ⟨j, j1, j2, j3⟩ | ⟨y, hy⟩
      · exact .inl ⟨j, j1, j2, (loop_cons rfl hb).trans j3⟩
      · exact .inr ⟨y, (loop_cons rfl hb).trans hy⟩
/-- what a word of a card is read as, and that it is written so again -/
inductive Rd (z : Str) : D → Prop where
  | no (h : z = "-") : Rd z .none
  | num (i : Int) (h : i ∈ gen10) (e : z = strI i) : Rd z (.int i)
  | txt : Rd z (.str z)
theorem Rd.part {z : Str} {d : D} (h : Rd z d) : m__part_text [d] = some (.str z) := by
  cases h with
  | no h => rw [h]; rfl
  | num i h e =>
    rw [e]
    have s := gen_str h
    have n : dIs (.int i) .none = some (.bool false) := rfl
    refine mDef_rt ?_
    simp only [b__part_text, start0, sSeq, sAsg, sIf, sRet, sNext, sOwn, sFrz, sDrop, sPar, sPar3, sParOV, sParOO, sParOOO, sStop, mOp, mUn, mVar, mC, mTest, mTru, mIfE, mList, mLst, mStar, mCons, mNil, mTup, mCall, mCallL, mAnd, mOr, mNot, mAndV, mOrV, mNotV, mIter, mSl, mSlL, mPart, mNoPart, mIfL, mCatL, mCatV, gSet, gTupM, gConsM, gNilM, isI, frz, wipeM, lim, isB, its, List.map_cons, List.map_nil, List.length_cons, List.length_nil, List.replicate, List.replicate_zero, List.cons_append, List.nil_append, List.getElem?_cons_zero, List.getElem?_cons_succ, List.set_cons_zero, List.set_cons_succ, Option.bind_some, Option.bind_none, Option.map_some, Option.map_none, if_true, if_false, if_pos, Bool.not_true, Bool.not_false, Bool.false_eq_true, reduceCtorEq, s, n]
  | txt => rfl
theorem rd_part {z : Str} (h : Tk z) : ∃ d, m__read_part [.str z] = some d ∧ Rd z d ∧ ((∃ s, d = .str s ∧ s = z) ∨ d = .none) := by
  rw [read_part h]
  by_cases c : z = "-"
  · rw [if_pos c]; exact ⟨_, rfl, .no c, .inr rfl⟩
  · rw [if_neg c]; exact ⟨_, rfl, .txt, .inl ⟨z, rfl, rfl⟩⟩
theorem rd_gen {z : Str} (h : Tk z) : ∃ d, m__read_generation [.str z] = some d ∧ Rd z d := by
  obtain ⟨d, p1, p2, _⟩ := rd_part h
  have hr : mRange2 (mCons (mC (.int (-8))) (mCons (mOp dAdd (mC (.int (1))) (mC (.int 1))) mNil)) (start0 2 [.str z]) = some (gen10.map .int) := rfl
  rcases lg_in h gen10 (fun _ x => x) none with ⟨i, i1, i2, i3⟩ | ⟨y, hy⟩
  · refine ⟨_, mDef_rt ?_, .num i i1 i2⟩
    unfold b__read_generation
    refine seq_rt ?_
    show (mRange2 _ _).bind _ = _
    rw [hr]
    exact i3
  · refine ⟨d, mDef_rt ?_, p2⟩
    unfold b__read_generation
    refine (seq_nx (ρ' := [some (.val (.str z)), y]) ?_).trans ?_
    · show (mRange2 _ _).bind _ = _
      rw [hr]
      exact hy
    · simp only [sSeq, sAsg, sIf, sRet, sNext, sOwn, sFrz, sDrop, sPar, sPar3, sParOV, sParOO, sParOOO, sStop, mOp, mUn, mVar, mC, mTest, mTru, mIfE, mList, mLst, mStar, mCons, mNil, mTup, mCall, mCallL, mAnd, mOr, mNot, mAndV, mOrV, mNotV, mIter, mSl, mSlL, mPart, mNoPart, mIfL, mCatL, mCatV, gSet, gTupM, gConsM, gNilM, isI, frz, wipeM, lim, isB, its, List.map_cons, List.map_nil, List.length_cons, List.length_nil, List.replicate, List.replicate_zero, List.cons_append, List.nil_append, List.getElem?_cons_zero, List.getElem?_cons_succ, List.set_cons_zero, List.set_cons_succ, Option.bind_some, Option.bind_none, Option.map_some, Option.map_none, if_true, if_false, if_pos, Bool.not_true, Bool.not_false, Bool.false_eq_true, reduceCtorEq, p1]
end DD

set_option Elab.async false
set_option linter.all false
set_option maxRecDepth 100000
set_option maxHeartbeats 4000000
namespace DD
open PySem PySem.Spec PyProof.Rows L2
/-- a generation as it is read -/
inductive Gn : D → Prop where
  | no : Gn .none
  | num (i : Int) : Gn (.int i)
  | txt (s : Str) (h : Tk s) : Gn (.str s)
inductive Pt : D → Prop where
  | no : Pt .none
  | txt (s : Str) (h : Tk s) : Pt (.str s)
theorem tru_b (b : Bool) : tru (.bool b) = some b := rfl
theorem gt1 (n : Nat) : dGt (.int n) (.int 1) = some (.bool (decide ((1 : Int) < n))) := rfl
theorem isn_n : dIsNot .none .none = some (.bool false) := rfl
theorem isn_s (s : Str) : dIsNot (.str s) .none = some (.bool true) := rfl
theorem isn_i (i : Int) : dIsNot (.int i) .none = some (.bool true) := rfl
theorem is_n : dIs .none .none = some (.bool true) := rfl
theorem is_s (s : Str) : dIs (.str s) .none = some (.bool false) := rfl
def bf1 : En → Option Fl := (sAsg (mList (mLc (mIter (mSlY (mVar 0) (mPart (mC (.int 1))) mNoPart)) (gSet 6) (mTest (mOp dIsNot (mVar 6) (mC .none))) (mVar 6) [6])) (gSet 5))
def toldL (g m v : D) : List D := [g, m, v].filter fun d => match d with | .none => false | _ => true
theorem told_eq {g m v : D} (hg : Gn g) (hm : Pt m) (hv : Pt v) (n : Str) : bf1 [some (.val (.tuple [.str n, g, m, v])), some (.val (.str n)), some (.val g), some (.val m), some (.val v), none, none] =
    some (.nx [some (.val (.tuple [.str n, g, m, v])), some (.val (.str n)), some (.val g), some (.val m), some (.val v), some (.val (.list (toldL g m v))), none]) := by
  cases hg <;> cases hm <;> cases hv <;> rfl
def bf2 : En → Option Fl :=
  (sSeq (sIf (mOr (mNot (mTru (mCall (lim 1 m_is_name) (mCons (mVar 1) mNil)))) (mTest (mOp dGt (mCall dLen (mCons (mVar 5) mNil)) (mC (.int 1)))))
  (sRet (mC (.bool false)))
  sNext)
  (sSeq (sIf (mTest (mOp dIsNot (mVar 2) (mC .none)))
  (sRet (mCall (lim 3 m_is_whole) (mCons (mVar 2) (mCons (mC (.int (-8))) (mCons (mC (.int (1))) mNil)))))
  sNext)
  (sRet (mCall dAll (mCons (mList (mLc (mIter (mTup (mCons (mVar 3) (mCons (mVar 4) mNil)))) (gSet 6) mYes (mOrV (mOp dIs (mVar 6) (mC .none)) (mCall (lim 1 m_is_name) (mCons (mVar 6) mNil))) [6])) mNil)))))
theorem len_told {g m v : D} (hg : Gn g) (hm : Pt m) (hv : Pt v) : ∃ k : Nat, dLen [.list (toldL g m v)] = some (.int k) := by
  cases hg <;> cases hm <;> cases hv <;> exact ⟨_, rfl⟩
theorem pt_name {m : D} (hm : Pt m) : ∃ b, (mOrV (mOp dIs (mVar 6) (mC .none)) (mCall (lim 1 m_is_name) (mCons (mVar 6) mNil))) = (mOrV (mOp dIs (mVar 6) (mC .none)) (mCall (lim 1 m_is_name) (mCons (mVar 6) mNil))) ∧ ∀ x0 x1 x2 x3 x4 x5 : Option Sl, (mOrV (mOp dIs (mVar 6) (mC .none)) (mCall (lim 1 m_is_name) (mCons (mVar 6) mNil))) [x0, x1, x2, x3, x4, x5, some (.val m)] = some (.bool b) := by
  cases hm with
  | no => exact ⟨true, rfl, fun _ _ _ _ _ _ => rfl⟩
  | txt s h =>
    obtain ⟨b, hb⟩ := name_b h
    refine ⟨b, rfl, fun _ _ _ _ _ _ => ?_⟩
    simp only [sSeq, sAsg, sIf, sRet, sNext, sOwn, sFrz, sDrop, sPar, sPar3, sParOV, sParOO, sParOOO, sStop, mOp, mUn, mVar, mC, mTest, mTru, mIfE, mList, mLst, mStar, mCons, mNil, mTup, mCall, mCallL, mAnd, mOr, mNot, mAndV, mOrV, mNotV, mIter, mSl, mSlL, mPart, mNoPart, mIfL, mCatL, mCatV, gSet, gTupM, gConsM, gNilM, isI, frz, wipeM, lim, isB, its, List.map_cons, List.map_nil, List.length_cons, List.length_nil, List.replicate, List.replicate_zero, List.cons_append, List.nil_append, List.getElem?_cons_zero, List.getElem?_cons_succ, List.set_cons_zero, List.set_cons_succ, Option.bind_some, Option.bind_none, Option.map_some, Option.map_none, if_true, if_false, if_pos, Bool.not_true, Bool.not_false, Bool.false_eq_true, reduceCtorEq, is_s, hb]
theorem bf2_eq {g m v : D} (hg : Gn g) (hm : Pt m) (hv : Pt v) {n : Str} (hn : Tk n) : ∃ b, bf2 [some (.val (.tuple [.str n, g, m, v])), some (.val (.str n)), some (.val g), some (.val m), some (.val v), some (.val (.list (toldL g m v))), none] = some (.rt (.bool b)) := by
  obtain ⟨bn, e1⟩ := name_b hn
  obtain ⟨k, e2⟩ := len_told hg hm hv
  have e3 := gt1 k
  unfold bf2
  cases bn with
  | false =>
    refine ⟨false, seq_rt ?_⟩
    simp only [sSeq, sAsg, sIf, sRet, sNext, sOwn, sFrz, sDrop, sPar, sPar3, sParOV, sParOO, sParOOO, sStop, mOp, mUn, mVar, mC, mTest, mTru, mIfE, mList, mLst, mStar, mCons, mNil, mTup, mCall, mCallL, mAnd, mOr, mNot, mAndV, mOrV, mNotV, mIter, mSl, mSlL, mPart, mNoPart, mIfL, mCatL, mCatV, gSet, gTupM, gConsM, gNilM, isI, frz, wipeM, lim, isB, its, List.map_cons, List.map_nil, List.length_cons, List.length_nil, List.replicate, List.replicate_zero, List.cons_append, List.nil_append, List.getElem?_cons_zero, List.getElem?_cons_succ, List.set_cons_zero, List.set_cons_succ, Option.bind_some, Option.bind_none, Option.map_some, Option.map_none, if_true, if_false, if_pos, Bool.not_true, Bool.not_false, Bool.false_eq_true, reduceCtorEq, tru_b, e1]
  | true =>
    cases hq : decide ((1 : Int) < k) with
    | true =>
      rw [hq] at e3
      refine ⟨false, seq_rt ?_⟩
      simp only [sSeq, sAsg, sIf, sRet, sNext, sOwn, sFrz, sDrop, sPar, sPar3, sParOV, sParOO, sParOOO, sStop, mOp, mUn, mVar, mC, mTest, mTru, mIfE, mList, mLst, mStar, mCons, mNil, mTup, mCall, mCallL, mAnd, mOr, mNot, mAndV, mOrV, mNotV, mIter, mSl, mSlL, mPart, mNoPart, mIfL, mCatL, mCatV, gSet, gTupM, gConsM, gNilM, isI, frz, wipeM, lim, isB, its, List.map_cons, List.map_nil, List.length_cons, List.length_nil, List.replicate, List.replicate_zero, List.cons_append, List.nil_append, List.getElem?_cons_zero, List.getElem?_cons_succ, List.set_cons_zero, List.set_cons_succ, Option.bind_some, Option.bind_none, Option.map_some, Option.map_none, if_true, if_false, if_pos, Bool.not_true, Bool.not_false, Bool.false_eq_true, reduceCtorEq, tru_b, e1, e2, e3]
    | false =>
      rw [hq] at e3
      have s1 : sIf (mOr (mNot (mTru (mCall (lim 1 m_is_name) (mCons (mVar 1) mNil)))) (mTest (mOp dGt (mCall dLen (mCons (mVar 5) mNil)) (mC (.int 1))))) (sRet (mC (.bool false))) sNext
        [some (.val (.tuple [.str n, g, m, v])), some (.val (.str n)), some (.val g), some (.val m), some (.val v), some (.val (.list (toldL g m v))), none] =
          some (.nx [some (.val (.tuple [.str n, g, m, v])), some (.val (.str n)), some (.val g), some (.val m), some (.val v), some (.val (.list (toldL g m v))), none]) := by
        simp only [sSeq, sAsg, sIf, sRet, sNext, sOwn, sFrz, sDrop, sPar, sPar3, sParOV, sParOO, sParOOO, sStop, mOp, mUn, mVar, mC, mTest, mTru, mIfE, mList, mLst, mStar, mCons, mNil, mTup, mCall, mCallL, mAnd, mOr, mNot, mAndV, mOrV, mNotV, mIter, mSl, mSlL, mPart, mNoPart, mIfL, mCatL, mCatV, gSet, gTupM, gConsM, gNilM, isI, frz, wipeM, lim, isB, its, List.map_cons, List.map_nil, List.length_cons, List.length_nil, List.replicate, List.replicate_zero, List.cons_append, List.nil_append, List.getElem?_cons_zero, List.getElem?_cons_succ, List.set_cons_zero, List.set_cons_succ, Option.bind_some, Option.bind_none, Option.map_some, Option.map_none, if_true, if_false, if_pos, Bool.not_true, Bool.not_false, Bool.false_eq_true, reduceCtorEq, tru_b, e1, e2, e3]
      obtain ⟨bm, _, f1⟩ := pt_name hm
      obtain ⟨bv, _, f2⟩ := pt_name hv
      cases hg with
      | no =>
        have hl : mLc (mIter (mTup (mCons (mVar 3) (mCons (mVar 4) mNil)))) (gSet 6) mYes (mOrV (mOp dIs (mVar 6) (mC .none)) (mCall (lim 1 m_is_name) (mCons (mVar 6) mNil))) [6]
            [some (.val (.tuple [.str n, .none, m, v])), some (.val (.str n)), some (.val .none), some (.val m), some (.val v), some (.val (.list (toldL .none m v))), none] = some [PyData.bool bm, PyData.bool bv] := by
          show (((mOrV (mOp dIs (mVar 6) (mC .none)) (mCall (lim 1 m_is_name) (mCons (mVar 6) mNil))) [some (.val (.tuple [.str n, .none, m, v])), some (.val (.str n)), some (.val .none), some (.val m), some (.val v), some (.val (.list (toldL .none m v))), some (.val m)]).bind fun x =>
            (((mOrV (mOp dIs (mVar 6) (mC .none)) (mCall (lim 1 m_is_name) (mCons (mVar 6) mNil))) [some (.val (.tuple [.str n, .none, m, v])), some (.val (.str n)), some (.val .none), some (.val m), some (.val v), some (.val (.list (toldL .none m v))), some (.val v)]).bind fun y => (some []).map fun r => y :: r).map fun r => x :: r) = _
          rw [f1, f2]
          rfl
        have hall : dAll [.list [PyData.bool bm, PyData.bool bv]] = some (.bool (bm && bv)) := by cases bm <;> cases bv <;> rfl
        have s2 : sIf (mTest (mOp dIsNot (mVar 2) (mC .none))) (sRet (mCall (lim 3 m_is_whole) (mCons (mVar 2) (mCons (mC (.int (-8))) (mCons (mC (.int (1))) mNil))))) sNext
            [some (.val (.tuple [.str n, .none, m, v])), some (.val (.str n)), some (.val .none), some (.val m), some (.val v), some (.val (.list (toldL .none m v))), none] =
              some (.nx [some (.val (.tuple [.str n, .none, m, v])), some (.val (.str n)), some (.val .none), some (.val m), some (.val v), some (.val (.list (toldL .none m v))), none]) := rfl
        refine ⟨bm && bv, (seq_nx s1).trans ((seq_nx s2).trans (ret_of ?_))⟩
        rw [call_of (cons_of (list_of hl) nil_of)]
        exact hall
      | num i =>
        obtain ⟨b, e⟩ : ∃ b, m_is_whole [.int i, .int (-8), .int 1] = some (.bool b) := ⟨_, R.whole_eq (.int i) (-8) 1⟩
        refine ⟨b, (seq_nx s1).trans (seq_rt ?_)⟩
        simp only [sSeq, sAsg, sIf, sRet, sNext, sOwn, sFrz, sDrop, sPar, sPar3, sParOV, sParOO, sParOOO, sStop, mOp, mUn, mVar, mC, mTest, mTru, mIfE, mList, mLst, mStar, mCons, mNil, mTup, mCall, mCallL, mAnd, mOr, mNot, mAndV, mOrV, mNotV, mIter, mSl, mSlL, mPart, mNoPart, mIfL, mCatL, mCatV, gSet, gTupM, gConsM, gNilM, isI, frz, wipeM, lim, isB, its, List.map_cons, List.map_nil, List.length_cons, List.length_nil, List.replicate, List.replicate_zero, List.cons_append, List.nil_append, List.getElem?_cons_zero, List.getElem?_cons_succ, List.set_cons_zero, List.set_cons_succ, Option.bind_some, Option.bind_none, Option.map_some, Option.map_none, if_true, if_false, if_pos, Bool.not_true, Bool.not_false, Bool.false_eq_true, reduceCtorEq, isn_i, e]
      | txt s h =>
        obtain ⟨b, e⟩ : ∃ b, m_is_whole [.str s, .int (-8), .int 1] = some (.bool b) := ⟨_, R.whole_eq (.str s) (-8) 1⟩
        refine ⟨b, (seq_nx s1).trans (seq_rt ?_)⟩
        simp only [sSeq, sAsg, sIf, sRet, sNext, sOwn, sFrz, sDrop, sPar, sPar3, sParOV, sParOO, sParOOO, sStop, mOp, mUn, mVar, mC, mTest, mTru, mIfE, mList, mLst, mStar, mCons, mNil, mTup, mCall, mCallL, mAnd, mOr, mNot, mAndV, mOrV, mNotV, mIter, mSl, mSlL, mPart, mNoPart, mIfL, mCatL, mCatV, gSet, gTupM, gConsM, gNilM, isI, frz, wipeM, lim, isB, its, List.map_cons, List.map_nil, List.length_cons, List.length_nil, List.replicate, List.replicate_zero, List.cons_append, List.nil_append, List.getElem?_cons_zero, List.getElem?_cons_succ, List.set_cons_zero, List.set_cons_succ, Option.bind_some, Option.bind_none, Option.map_some, Option.map_none, if_true, if_false, if_pos, Bool.not_true, Bool.not_false, Bool.false_eq_true, reduceCtorEq, isn_s, e]
theorem ref_b {g m v : D} (hg : Gn g) (hm : Pt m) (hv : Pt v) {n : Str} (hn : Tk n) : ∃ b, m__is_reference [.tuple [.str n, g, m, v]] = some (.bool b) := by
  obtain ⟨b, hb⟩ := bf2_eq hg hm hv hn
  refine ⟨b, mDef_rt ?_⟩
  unfold b__is_reference
  exact (seq_nx (ρ' := [some (.val (.tuple [.str n, g, m, v])), none, none, none, none, none, none]) rfl).trans ((seq_nx (ρ' := [some (.val (.tuple [.str n, g, m, v])), some (.val (.str n)), some (.val g), some (.val m), some (.val v), none, none]) rfl).trans ((seq_nx (told_eq hg hm hv n)).trans hb))
theorem gn_lay {g : D} (h : Gn g) : Lay 0 g := by
  cases h with
  | no => exact lay_none
  | num i => exact lay_int
  | txt s h => exact lay_str h.ok
theorem pt_lay {g : D} (h : Pt g) : Lay 0 g := by
  cases h with
  | no => exact lay_none
  | txt s h => exact lay_str h.ok
theorem alone_b {g m v : D} (hg : Gn g) (hm : Pt m) (hv : Pt v) (n : Str) : ∃ b, m_is_name_alone [.tuple [.str n, g, m, v]] = some (.bool b) := by
  have e : dEq (.tuple [g, m, v]) (.tuple [.none, .none, .none]) = some (.bool (PyData.eqv (.tuple [g, m, v]) (.tuple [.none, .none, .none]))) :=
    dEq_of ((lay_tup (k := 0) fun d hd => by
      simp only [List.mem_cons, List.mem_nil_iff, or_false] at hd
      rcases hd with rfl | rfl | rfl
      · exact gn_lay hg
      · exact pt_lay hm
      · exact pt_lay hv).shaped (by decide)) (by decide +kernel)
  exact ⟨_, mDef_rt (ret_of e)⟩
theorem how_in (h : Str) : dInX true (.str h) (.tuple [(.str ("old" : Str)), (.str ("shared" : Str)), (.str ("new" : Str)), (.str ("more" : Str))]) = some (.bool (!decide (h ∈ hows))) := ninX_t h hows
theorem then_in (h : Str) : dInX true (.str h) (.tuple [(.str ("keep" : Str)), (.str ("drop" : Str)), (.str ("pass" : Str))]) = some (.bool (!decide (h ∈ thens))) := ninX_t h thens
theorem new_in (h : Str) : ∃ b, dInX false (.str h) (.tuple [(.str ("new" : Str)), (.str ("more" : Str))]) = some (.bool b) := ⟨_, inX_t h ["new", "more"]⟩
theorem pass_eq {t : Str} (h : Tk t) : dEq (.str t) (.str "pass") = some (.bool (decide (t = "pass"))) := dEq_str h.ok (by decide +kernel)
theorem ne1 {g : D} (h : Gn g) : ∃ b, dNe g (.int 1) = some (.bool b) := ⟨_, dNe_of ((gn_lay h).shaped (by decide)) ((lay_int (i := 1)).shaped (by decide))⟩
theorem sIf_b {c : En → Option Bool} {ρ : En} {a : En → Option Fl} {b : Bool} (h : c ρ = some b) : sIf c a sNext ρ = if b = true then a ρ else some (.nx ρ) := by
  show (c ρ).bind _ = _
  rw [h]
  rfl
theorem card_b {g m v : D} (hg : Gn g) (hm : Pt m) (hv : Pt v) {n h t : Str} (hn : Tk n) (ht : Tk t) : ∃ b, m_is_file_card [.tuple [.tuple [.str n, g, m, v], .str h, .str t]] = some (.bool b) := by
  obtain ⟨b1, e1⟩ := ref_b hg hm hv hn
  obtain ⟨b2, e2⟩ := alone_b hg hm hv n
  obtain ⟨b3, e3⟩ := ne1 hg
  obtain ⟨b4, e4⟩ := new_in h
  have e5 := how_in h
  have e6 := then_in t
  have e7 := pass_eq ht
  generalize hr : PyData.tuple [.str n, g, m, v] = r at *
  have i1 : dIx r (.int 1) = some g := by rw [← hr]; rfl
  generalize (!decide (h ∈ hows)) = b5 at *
  generalize (!decide (t ∈ thens)) = b6 at *
  generalize decide (t = "pass") = b7 at *
  let R : En := [some (.val (.tuple [r, .str h, .str t])), some (.val r), some (.val (.str h)), some (.val (.str t))]
  have s0 : sIf (mOr (mNot (mTru (mUn (dIsi "tuple") (mVar 0)))) (mTest (mOp dNe (mCall dLen (mCons (mVar 0) mNil)) (mC (.int 3))))) (sRet (mC (.bool false))) sNext (start0 4 [.tuple [r, .str h, .str t]]) = some (.nx (start0 4 [.tuple [r, .str h, .str t]])) := rfl
  have s1 : sAsg (mVar 0) (gAnyM 3 (gConsM (gSet 1) (gConsM (gSet 2) (gConsM (gSet 3) gNilM)))) (start0 4 [.tuple [r, .str h, .str t]]) = some (.nx R) := rfl
  have c2 : mOr (mNot (mTru (mCall (lim 1 m__is_reference) (mCons (mVar 1) mNil)))) (mOr (mTest (mOp (dInX true) (mVar 2) (mC (.tuple [(.str ("old" : Str)), (.str ("shared" : Str)), (.str ("new" : Str)), (.str ("more" : Str))])))) (mTest (mOp (dInX true) (mVar 3) (mC (.tuple [(.str ("keep" : Str)), (.str ("drop" : Str)), (.str ("pass" : Str))]))))) R = some (!b1 || (b5 || b6)) := by
    cases b1 <;> cases b5 <;> simp only [R, sSeq, sAsg, sIf, sRet, sNext, sOwn, sFrz, sDrop, sPar, sPar3, sParOV, sParOO, sParOOO, sStop, mOp, mUn, mVar, mC, mTest, mTru, mIfE, mList, mLst, mStar, mCons, mNil, mTup, mCall, mCallL, mAnd, mOr, mNot, mAndV, mOrV, mNotV, mIter, mSl, mSlL, mPart, mNoPart, mIfL, mCatL, mCatV, gSet, gTupM, gConsM, gNilM, isI, frz, wipeM, lim, isB, its, List.map_cons, List.map_nil, List.length_cons, List.length_nil, List.replicate, List.replicate_zero, List.cons_append, List.nil_append, List.getElem?_cons_zero, List.getElem?_cons_succ, List.set_cons_zero, List.set_cons_succ, Option.bind_some, Option.bind_none, Option.map_some, Option.map_none, if_true, if_false, if_pos, Bool.not_true, Bool.not_false, Bool.false_eq_true, reduceCtorEq, tru_b, e1, e5, e6] <;> rfl
  have c3 : mAnd (mTest (mOp dEq (mVar 3) (mC (.str ("pass" : Str))))) (mNot (mTru (mCall (lim 1 m_is_name_alone) (mCons (mVar 1) mNil)))) R = some (b7 && !b2) := by
    cases b7 <;> simp only [R, sSeq, sAsg, sIf, sRet, sNext, sOwn, sFrz, sDrop, sPar, sPar3, sParOV, sParOO, sParOOO, sStop, mOp, mUn, mVar, mC, mTest, mTru, mIfE, mList, mLst, mStar, mCons, mNil, mTup, mCall, mCallL, mAnd, mOr, mNot, mAndV, mOrV, mNotV, mIter, mSl, mSlL, mPart, mNoPart, mIfL, mCatL, mCatV, gSet, gTupM, gConsM, gNilM, isI, frz, wipeM, lim, isB, its, List.map_cons, List.map_nil, List.length_cons, List.length_nil, List.replicate, List.replicate_zero, List.cons_append, List.nil_append, List.getElem?_cons_zero, List.getElem?_cons_succ, List.set_cons_zero, List.set_cons_succ, Option.bind_some, Option.bind_none, Option.map_some, Option.map_none, if_true, if_false, if_pos, Bool.not_true, Bool.not_false, Bool.false_eq_true, reduceCtorEq, tru_b, e7, e2] <;> rfl
  have c4 : mOrV (mOp dNe (mOp dIx (mVar 1) (mC (.int 1))) (mC (.int (1)))) (mOp (dInX false) (mVar 2) (mTup (mCons (mC (.str ("new" : Str))) (mCons (mC (.str ("more" : Str))) mNil)))) R = some (.bool (b3 || b4)) := by
    cases b3 <;> simp only [R, sSeq, sAsg, sIf, sRet, sNext, sOwn, sFrz, sDrop, sPar, sPar3, sParOV, sParOO, sParOOO, sStop, mOp, mUn, mVar, mC, mTest, mTru, mIfE, mList, mLst, mStar, mCons, mNil, mTup, mCall, mCallL, mAnd, mOr, mNot, mAndV, mOrV, mNotV, mIter, mSl, mSlL, mPart, mNoPart, mIfL, mCatL, mCatV, gSet, gTupM, gConsM, gNilM, isI, frz, wipeM, lim, isB, its, List.map_cons, List.map_nil, List.length_cons, List.length_nil, List.replicate, List.replicate_zero, List.cons_append, List.nil_append, List.getElem?_cons_zero, List.getElem?_cons_succ, List.set_cons_zero, List.set_cons_succ, Option.bind_some, Option.bind_none, Option.map_some, Option.map_none, if_true, if_false, if_pos, Bool.not_true, Bool.not_false, Bool.false_eq_true, reduceCtorEq, tru_b, i1, e3, sz2, e4] <;> rfl
  unfold m_is_file_card
  cases h2 : (!b1 || (b5 || b6)) with
  | true =>
    rw [h2] at c2
    refine ⟨false, mDef_rt ?_⟩
    unfold b_is_file_card
    exact (seq_nx s0).trans ((seq_nx s1).trans (seq_rt (if_t c2)))
  | false =>
    rw [h2] at c2
    cases h3 : (b7 && !b2) with
    | true =>
      rw [h3] at c3
      refine ⟨false, mDef_rt ?_⟩
      unfold b_is_file_card
      exact (seq_nx s0).trans ((seq_nx s1).trans ((seq_nx (if_f c2)).trans (seq_rt (if_t c3))))
    | false =>
      rw [h3] at c3
      refine ⟨b3 || b4, mDef_rt ?_⟩
      unfold b_is_file_card
      exact (seq_nx s0).trans ((seq_nx s1).trans ((seq_nx (if_f c2)).trans ((seq_nx (if_f c3)).trans (ret_of c4))))
end DD

set_option Elab.async false
set_option linter.all false
set_option maxRecDepth 100000
set_option maxHeartbeats 4000000
namespace DD
open PySem PySem.Spec PyProof.Rows L2
/-! ### what is split is joined again -/
theorem strOk_app (a b : Str) : PyData.strOk (a ++ b) = (PyData.strOk a && PyData.strOk b) := by
  show ((a ++ b).cps.all _) = _
  show ((a.cps ++ b.cps).all _) = _
  rw [Array.all_append]
  rfl
theorem join_parts (y : Str) : ∀ (ps : List Str), PyData.strOk (Str.join y ps) = true → ∀ p ∈ ps, PyData.strOk p = true ∧ p.length ≤ (Str.join y ps).length
  | [], _, p, h => nomatch h
  | [x], k, p, h => by
    cases List.mem_singleton.mp h
    exact ⟨k, Nat.le_refl _⟩
  | x :: z :: r, k, p, h => by
    have k2 : PyData.strOk (x ++ y ++ Str.join y (z :: r)) = true := k
    rw [strOk_app, strOk_app, Bool.and_eq_true, Bool.and_eq_true] at k2
    have l : (Str.join y (x :: z :: r)).length = x.length + y.length + (Str.join y (z :: r)).length := by
      show (x ++ y ++ Str.join y (z :: r)).length = _
      rw [Str.length_append, Str.length_append]
    rw [l]
    rcases List.mem_cons.mp h with rfl | h
    · exact ⟨k2.1.1, by omega⟩
    · obtain ⟨a, b⟩ := join_parts y (z :: r) k2.2 p h
      exact ⟨a, by omega⟩
theorem split_tk {s : Str} (h : Tk s) : ∀ p ∈ Txt.split s " ", Tk p := fun p hp => by
  have e := StrLaws.join_split s " "
  obtain ⟨a, b⟩ := join_parts " " (Txt.split s " ") (by rw [e]; exact h.ok) p hp
  rw [e] at b
  exact ⟨a, Nat.le_trans b h.le⟩
theorem are_texts {ws : List Str} (h : ws.length ≤ 2000) : m__are_texts [.list (ws.map .str)] = some (.bool true) := by
  refine mDef_rt (ret_of ?_)
  have hl : mLc (mIter (mVar 0)) (gSet 1) mYes (mUn (dIsi "str") (mVar 1)) [1] (start0 2 [.list (ws.map .str)]) = some ((ws.map PyData.str).map fun d => .bool true) := by
    refine lc_of rfl (by rw [List.length_map]; exact Nat.le_trans h (by decide)) fun d hd => ?_
    obtain ⟨w, _, rfl⟩ := List.mem_map.mp hd
    exact ⟨_, rfl, rfl⟩
  rw [andV_t (show _ = some (PyData.bool true) from rfl), call_of (cons_of (list_of hl) nil_of)]
  rw [dAll_map]
  congr 2
  simp
/-- a card of six texts, or its refusal -/
theorem card_in_six {n g m v h t : Str} (hn : Tk n) (hg : Tk g) (hm : Tk m) (hv : Tk v) (ht : Tk t) :
    (∃ dg dm dv, Rd g dg ∧ Rd m dm ∧ Rd v dv ∧ m_is_file_card [.tuple [.tuple [.str n, dg, dm, dv], .str h, .str t]] = some (.bool true) ∧
      m_card_in [.list [.str n, .str g, .str m, .str v, .str h, .str t]] = some (.ok (.tuple [.tuple [.str n, dg, dm, dv], .str h, .str t]))) ∨
    m_card_in [.list [.str n, .str g, .str m, .str v, .str h, .str t]] = some (.ex 0) := by
  obtain ⟨dg, g1, g2⟩ := rd_gen hg
  obtain ⟨dm, m1, m2, m3⟩ := rd_part hm
  obtain ⟨dv, v1, v2, v3⟩ := rd_part hv
  have gG : Gn dg := by
    cases g2 with
    | no _ => exact .no
    | num i _ _ => exact .num i
    | txt => exact .txt g hg
  have gM : Pt dm := by
    rcases m3 with ⟨s, rfl, rfl⟩ | rfl
    · exact .txt _ hm
    · exact .no
  have gV : Pt dv := by
    rcases v3 with ⟨s, rfl, rfl⟩ | rfl
    · exact .txt _ hv
    · exact .no
  obtain ⟨b, hb⟩ := card_b gG gM gV hn ht (h := h)
  have ta : m__are_texts [.list [.str n, .str g, .str m, .str v, .str h, .str t]] = some (.bool true) := are_texts (ws := [n, g, m, v, h, t]) (by show 6 ≤ 2000; decide)
  have l6 : dLen [.list [.str n, .str g, .str m, .str v, .str h, .str t]] = some (.int 6) := rfl
  have n6 : dNe (.int 6) (.int 6) = some (.bool false) := by kernel_rfl
  generalize hL : PyData.list [.str n, .str g, .str m, .str v, .str h, .str t] = L at *
  have c0 : mOr (mNot (mTru (mCall (lim 1 m__are_texts) (mCons (mVar 0) mNil)))) (mTest (mOp dNe (mCall dLen (mCons (mVar 0) mNil)) (mC (.int (6))))) (start0 9 [L]) = some false := by
    simp only [start0, sSeq, sAsg, sIf, sRet, sNext, sOwn, sFrz, sDrop, sPar, sPar3, sParOV, sParOO, sParOOO, sStop, mOp, mUn, mVar, mC, mTest, mTru, mIfE, mList, mLst, mStar, mCons, mNil, mTup, mCall, mCallL, mAnd, mOr, mNot, mAndV, mOrV, mNotV, mIter, mSl, mSlL, mPart, mNoPart, mIfL, mCatL, mCatV, gSet, gTupM, gConsM, gNilM, isI, frz, wipeM, lim, isB, its, List.map_cons, List.map_nil, List.length_cons, List.length_nil, List.replicate, List.replicate_zero, List.cons_append, List.nil_append, List.getElem?_cons_zero, List.getElem?_cons_succ, List.set_cons_zero, List.set_cons_succ, Option.bind_some, Option.bind_none, Option.map_some, Option.map_none, if_true, if_false, if_pos, Bool.not_true, Bool.not_false, Bool.false_eq_true, reduceCtorEq, tru_b, ta, l6, n6]
  have s1 : sAsg (mVar 0) (gAnyM 6 (gConsM (gSet 1) (gConsM (gSet 2) (gConsM (gSet 3) (gConsM (gSet 4) (gConsM (gSet 5) (gConsM (gSet 6) gNilM))))))) (start0 9 [L]) =
      some (.nx [some (.val L), some (.val (.str n)), some (.val (.str g)), some (.val (.str m)), some (.val (.str v)), some (.val (.str h)), some (.val (.str t)), none, none]) := by rw [← hL]; rfl
  generalize hr : PyData.tuple [.str n, dg, dm, dv] = r at *
  have s2 : sAsg (mTup (mCons (mVar 1) (mCons (mCall (lim 1 m__read_generation) (mCons (mVar 2) mNil)) (mCons (mCall (lim 1 m__read_part) (mCons (mVar 3) mNil)) (mCons (mCall (lim 1 m__read_part) (mCons (mVar 4) mNil)) mNil))))) (gSet 7)
      [some (.val L), some (.val (.str n)), some (.val (.str g)), some (.val (.str m)), some (.val (.str v)), some (.val (.str h)), some (.val (.str t)), none, none] =
      some (.nx [some (.val L), some (.val (.str n)), some (.val (.str g)), some (.val (.str m)), some (.val (.str v)), some (.val (.str h)), some (.val (.str t)), some (.val r), none]) := by
    simp only [sSeq, sAsg, sIf, sRet, sNext, sOwn, sFrz, sDrop, sPar, sPar3, sParOV, sParOO, sParOOO, sStop, mOp, mUn, mVar, mC, mTest, mTru, mIfE, mList, mLst, mStar, mCons, mNil, mTup, mCall, mCallL, mAnd, mOr, mNot, mAndV, mOrV, mNotV, mIter, mSl, mSlL, mPart, mNoPart, mIfL, mCatL, mCatV, gSet, gTupM, gConsM, gNilM, isI, frz, wipeM, lim, isB, its, List.map_cons, List.map_nil, List.length_cons, List.length_nil, List.replicate, List.replicate_zero, List.cons_append, List.nil_append, List.getElem?_cons_zero, List.getElem?_cons_succ, List.set_cons_zero, List.set_cons_succ, Option.bind_some, Option.bind_none, Option.map_some, Option.map_none, if_true, if_false, if_pos, Bool.not_true, Bool.not_false, Bool.false_eq_true, reduceCtorEq, g1, m1, v1, sz4, hr]
  have s3 : sAsg (mTup (mCons (mVar 7) (mCons (mVar 5) (mCons (mVar 6) mNil)))) (gSet 8)
      [some (.val L), some (.val (.str n)), some (.val (.str g)), some (.val (.str m)), some (.val (.str v)), some (.val (.str h)), some (.val (.str t)), some (.val r), none] =
      some (.nx [some (.val L), some (.val (.str n)), some (.val (.str g)), some (.val (.str m)), some (.val (.str v)), some (.val (.str h)), some (.val (.str t)), some (.val r), some (.val (.tuple [r, .str h, .str t]))]) := rfl
  have xnx : ∀ {a : En → Option Fl} {ρ ρ' : En} {c : En → Option FlX}, a ρ = some (.nx ρ') → xSeq (xFl a) c ρ = c ρ' := fun {a ρ ρ' c} e => by
    show ((xFl a ρ).bind _) = _
    show (((a ρ).map FlX.fl).bind _) = _
    rw [e]
    rfl
  have xif_f : ∀ {c : En → Option Bool} {ρ : En} {a b : En → Option FlX}, c ρ = some false → xIf c a b ρ = b ρ := fun {c ρ a b} e => by
    show (c ρ).bind _ = _
    rw [e]
    rfl
  have xif_t : ∀ {c : En → Option Bool} {ρ : En} {a b : En → Option FlX}, c ρ = some true → xIf c a b ρ = a ρ := fun {c ρ a b} e => by
    show (c ρ).bind _ = _
    rw [e]
    rfl
  have xs_nx : ∀ {a c : En → Option FlX} {ρ ρ' : En}, a ρ = some (.fl (.nx ρ')) → xSeq a c ρ = c ρ' := fun {a c ρ ρ'} e => by
    show (a ρ).bind _ = _
    rw [e]
    rfl
  have c4 : mNot (mTru (mCall (lim 1 m_is_file_card) (mCons (mVar 8) mNil))) [some (.val L), some (.val (.str n)), some (.val (.str g)), some (.val (.str m)), some (.val (.str v)), some (.val (.str h)), some (.val (.str t)), some (.val r), some (.val (.tuple [r, .str h, .str t]))] = some (!b) := by
    simp only [sSeq, sAsg, sIf, sRet, sNext, sOwn, sFrz, sDrop, sPar, sPar3, sParOV, sParOO, sParOOO, sStop, mOp, mUn, mVar, mC, mTest, mTru, mIfE, mList, mLst, mStar, mCons, mNil, mTup, mCall, mCallL, mAnd, mOr, mNot, mAndV, mOrV, mNotV, mIter, mSl, mSlL, mPart, mNoPart, mIfL, mCatL, mCatV, gSet, gTupM, gConsM, gNilM, isI, frz, wipeM, lim, isB, its, List.map_cons, List.map_nil, List.length_cons, List.length_nil, List.replicate, List.replicate_zero, List.cons_append, List.nil_append, List.getElem?_cons_zero, List.getElem?_cons_succ, List.set_cons_zero, List.set_cons_succ, Option.bind_some, Option.bind_none, Option.map_some, Option.map_none, if_true, if_false, if_pos, Bool.not_true, Bool.not_false, Bool.false_eq_true, reduceCtorEq, tru_b, hb]
  have hall : b_card_in (start0 9 [L]) = (if b = true then some (.fl (.rt (.tuple [r, .str h, .str t]))) else some (.ex 0 [some (.val L), some (.val (.str n)), some (.val (.str g)), some (.val (.str m)), some (.val (.str v)), some (.val (.str h)), some (.val (.str t)), some (.val r), some (.val (.tuple [r, .str h, .str t]))])) := by
    unfold b_card_in
    rw [xs_nx (ρ' := start0 9 [L]) (by rw [xif_f c0]; rfl), xnx s1, xnx s2, xnx s3]
    cases b with
    | true => rw [xs_nx (by rw [xif_f c4]; rfl)]; rfl
    | false =>
      show (xIf _ _ _ _).bind _ = _
      rw [xif_t c4]
      rfl
  cases b with
  | true =>
    refine .inl ⟨dg, dm, dv, g2, m2, v2, by rw [hr]; exact hb, ?_⟩
    rw [hr]
    show (b_card_in _).bind _ = _
    rw [hall]
    rfl
  | false =>
    refine .inr ?_
    show (b_card_in _).bind _ = _
    rw [hall]
    rfl
theorem card_in_no {ws : List Str} (h : ws.length ≤ 2000) (k : ws.length ≠ 6) : m_card_in [.list (ws.map .str)] = some (.ex 0) := by
  have ta := are_texts h
  have l6 : dLen [.list (ws.map PyData.str)] = some (.int ws.length) := by rw [dLen_list (by rw [List.length_map]; exact Nat.le_trans h (by decide)), List.length_map]
  have n6 : dNe (.int ws.length) (.int 6) = some (.bool true) := by
    rw [dNe_of ((lay_int (i := ws.length)).shaped (by decide)) ((lay_int (i := 6)).shaped (by decide))]
    show some (PyData.bool (!((ws.length : Int) == 6))) = _
    rw [beq_eq_false_iff_ne.mpr (by omega)]
    rfl
  generalize PyData.list (ws.map .str) = L at *
  have c0 : mOr (mNot (mTru (mCall (lim 1 m__are_texts) (mCons (mVar 0) mNil)))) (mTest (mOp dNe (mCall dLen (mCons (mVar 0) mNil)) (mC (.int (6))))) (start0 9 [L]) = some true := by
    simp only [start0, sSeq, sAsg, sIf, sRet, sNext, sOwn, sFrz, sDrop, sPar, sPar3, sParOV, sParOO, sParOOO, sStop, mOp, mUn, mVar, mC, mTest, mTru, mIfE, mList, mLst, mStar, mCons, mNil, mTup, mCall, mCallL, mAnd, mOr, mNot, mAndV, mOrV, mNotV, mIter, mSl, mSlL, mPart, mNoPart, mIfL, mCatL, mCatV, gSet, gTupM, gConsM, gNilM, isI, frz, wipeM, lim, isB, its, List.map_cons, List.map_nil, List.length_cons, List.length_nil, List.replicate, List.replicate_zero, List.cons_append, List.nil_append, List.getElem?_cons_zero, List.getElem?_cons_succ, List.set_cons_zero, List.set_cons_succ, Option.bind_some, Option.bind_none, Option.map_some, Option.map_none, if_true, if_false, if_pos, Bool.not_true, Bool.not_false, Bool.false_eq_true, reduceCtorEq, tru_b, ta, l6, n6]
  show (b_card_in _).bind _ = _
  have : b_card_in (start0 9 [L]) = some (.ex 0 (start0 9 [L])) := by
    unfold b_card_in
    show ((mOr _ _ _).bind _).bind _ = _
    rw [c0]
    rfl
  rw [this]
  rfl
theorem join_of {a : Str} {ds : List D} {ns : List Str} (h : strsD ds = some ns) (k : (ns.map (·.length)).sum + ns.length * a.length ≤ 16777216) : dJoin (.str a) (.list ds) = some (.str (Txt.join a ns)) := by
  show ((strsD ds).bind fun ns => if (ns.map (·.length)).sum + ns.length * a.length ≤ 16777216 then some (PyData.str (Txt.join a ns)) else none) = _
  rw [h]
  show (if (ns.map (·.length)).sum + ns.length * a.length ≤ 16777216 then some (PyData.str (Txt.join a ns)) else none) = _
  rw [if_pos k]
theorem lc_gen {it : En → Option (List D)} {g : D → En → Option En} {e : En → Option D} {vs : List Nat} {ρ : En} {ds r : List D} (hi : it ρ = some ds) (hz : ds.length ≤ cap) (h : coll g mYes e (wipeM ρ vs) ds = some r) : mLc it g mYes e vs ρ = some r := by
  unfold mLc
  rw [hi]
  show (if ds.length ≤ cap then coll g mYes e (wipeM ρ vs) ds else none) = _
  rw [if_pos hz]
  exact h
theorem coll_cc {g : D → En → Option En} {e : En → Option D} {ρ ρ1 : En} {d x : D} {ds r : List D} (h1 : g d ρ = some ρ1) (h2 : e ρ1 = some x) (h3 : coll g mYes e ρ ds = some r) : coll g mYes e ρ (d :: ds) = some (x :: r) := by
  show ((g d ρ).bind fun ρ1 => (mYes ρ1).bind fun b => if b = true then (e ρ1).bind fun x => (coll g mYes e ρ ds).map fun r => x :: r else coll g mYes e ρ ds) = _
  rw [h1]
  show (if true = true then (e ρ1).bind fun x => (coll g mYes e ρ ds).map fun r => x :: r else coll g mYes e ρ ds) = _
  rw [if_pos rfl, h2]
  show ((coll g mYes e ρ ds).map fun r => x :: r) = _
  rw [h3]
  rfl
/-- a card that was read is written as its words, with blanks between -/
theorem line_six {n g m v h t : Str} (hn : Tk n) (hg : Tk g) (hm : Tk m) (hv : Tk v) (hh : Tk h) (ht : Tk t) {dg dm dv : D} (g2 : Rd g dg) (m2 : Rd m dm) (v2 : Rd v dv) :
    m_card_line [.tuple [.tuple [.str n, dg, dm, dv], .str h, .str t]] = some (.str (Txt.join " " [n, g, m, v, h, t])) := by
  have p1 : m__part_text [.str n] = some (.str n) := rfl
  have p2 := g2.part
  have p3 := m2.part
  have p4 := v2.part
  have p5 : m__part_text [.str h] = some (.str h) := rfl
  have p6 : m__part_text [.str t] = some (.str t) := rfl
  refine mDef_rt ?_
  have s1 : sAsg (mVar 0) (gAnyM 3 (gConsM (gSet 1) (gConsM (gSet 2) (gConsM (gSet 3) gNilM)))) (start0 5 [.tuple [.tuple [.str n, dg, dm, dv], .str h, .str t]]) =
      some (.nx [some (.val (.tuple [.tuple [.str n, dg, dm, dv], .str h, .str t])), some (.val (.tuple [.str n, dg, dm, dv])), some (.val (.str h)), some (.val (.str t)), none]) := rfl
  refine (seq_nx s1).trans (ret_of ?_)
  have hl : mLc (mIter (mTup (mStar (mVar 1) (mCons (mVar 2) (mCons (mVar 3) mNil))))) (gSet 4) mYes (mCall (lim 1 m__part_text) (mCons (mVar 4) mNil)) [4]
      [some (.val (.tuple [.tuple [.str n, dg, dm, dv], .str h, .str t])), some (.val (.tuple [.str n, dg, dm, dv])), some (.val (.str h)), some (.val (.str t)), none] = some ([n, g, m, v, h, t].map .str) := by
    refine lc_gen (ds := [PyData.str n, dg, dm, dv, PyData.str h, PyData.str t]) rfl (show 6 ≤ cap by decide) ?_
    exact coll_cc rfl p1 (coll_cc rfl p2 (coll_cc rfl p3 (coll_cc rfl p4 (coll_cc rfl p5 (coll_cc rfl p6 rfl)))))
  have hb : ([n, g, m, v, h, t].map (·.length)).sum + [n, g, m, v, h, t].length * (" " : Str).length ≤ 16777216 := by
    have e1 : (" " : Str).length = 1 := by decide +kernel
    rw [e1]
    simp only [List.map_cons, List.map_nil, List.sum_cons, List.sum_nil, List.length_cons, List.length_nil]
    have := hn.le; have := hg.le; have := hm.le; have := hv.le; have := hh.le; have := ht.le
    omega
  rw [op_of (show mC (.str (" " : Str)) _ = some (.str " ") from rfl) (list_of hl)]
  exact join_of rfl hb
def wsD (s : Str) : D := .list ((Txt.split s " ").map .str)
theorem split_of {s : Str} (h : Tk s) : dSplit (.str s) (.str " ") = some (wsD s) := by
  show (if (((" " : Str).length == 0) = false ∧ s.length + 2 ≤ 16777216) then some (wsD s) else none) = _
  rw [if_pos ⟨by decide +kernel, by have := h.le; omega⟩]
theorem again_b {s : Str} (h : Tk s) :
    (m__law_again [.str s] = some .none) ∨ (m__law_again [.str s] = some (.str s) ∧ ∃ c, m_card_in [wsD s] = some (.ok c) ∧ m_is_file_card [c] = some (.bool true)) := by
  have sp := split_of h
  have hl : (Txt.split s " ").length ≤ 2000 := by
    have := PyProof.Rows.split_le s " "
    have := h.le
    omega
  have tk := split_tk h
  have jn : Txt.join " " (Txt.split s " ") = s := (StrLaws.glued_eq_join _ _).trans (StrLaws.join_split s " ")
  have hx : (m_card_in [wsD s] = some (.ex 0)) ∨ ∃ c, m_card_in [wsD s] = some (.ok c) ∧ m_is_file_card [c] = some (.bool true) ∧ m_card_line [c] = some (.str s) := by
    unfold wsD
    by_cases k : (Txt.split s " ").length = 6
    · revert tk jn k
      generalize Txt.split s " " = ws
      intro tk jn k
      match ws, k with
      | [n, g, m, v, h, t], _ =>
        have hn := tk n (by simp)
        have hg := tk g (by simp)
        have hm := tk m (by simp)
        have hv := tk v (by simp)
        have hh := tk h (by simp)
        have ht := tk t (by simp)
        rcases card_in_six (h := h) hn hg hm hv ht with ⟨dg, dm, dv, a1, a2, a3, a4, a5⟩ | a
        · exact .inr ⟨_, a5, a4, (line_six hn hg hm hv hh ht a1 a2 a3).trans (by rw [jn])⟩
        · exact .inl a
    · exact .inl (card_in_no hl k)
  have unf : m__law_again [.str s] = ((xRet (xThen (lim 1 m_card_line) (xCall 1 m_card_in (mCons (mOp dSplit (mVar 0) (mC (.str (" " : Str)))) mNil))) (start0 2 [.str s])).bind fun x => match x with
    | .fl f => some f
    | .ex c ρ' => if c = 0 ∧ 1 < ρ'.length then some (.rt .none) else none).bind fun f => match f with
      | .rt d => some d
      | .nx _ => some .none
      | _ => none := rfl
  have cs : mCons (mOp dSplit (mVar 0) (mC (.str (" " : Str)))) mNil (start0 2 [.str s]) = some [wsD s] := by
    rw [cons_of (show mOp dSplit (mVar 0) (mC (.str (" " : Str))) (start0 2 [.str s]) = some (wsD s) from (op_of rfl rfl).trans sp) nil_of]
  have xc : xCall 1 m_card_in (mCons (mOp dSplit (mVar 0) (mC (.str (" " : Str)))) mNil) (start0 2 [.str s]) = m_card_in [wsD s] := by
    show (mCons _ _ _).bind _ = _
    rw [cs]
    rfl
  rcases hx with e | ⟨c, e1, e2, e3⟩
  · refine .inl ?_
    rw [unf]
    have : xRet (xThen (lim 1 m_card_line) (xCall 1 m_card_in (mCons (mOp dSplit (mVar 0) (mC (.str (" " : Str)))) mNil))) (start0 2 [.str s]) = some (.ex 0 (start0 2 [.str s])) := by
      show ((xCall 1 m_card_in _ _).bind _).bind _ = _
      rw [xc, e]
      rfl
    rw [this]
    rfl
  · refine .inr ⟨?_, c, e1, e2⟩
    rw [unf]
    have : xRet (xThen (lim 1 m_card_line) (xCall 1 m_card_in (mCons (mOp dSplit (mVar 0) (mC (.str (" " : Str)))) mNil))) (start0 2 [.str s]) = some (.fl (.rt (.str s))) := by
      show ((xCall 1 m_card_in _ _).bind _).bind _ = _
      rw [xc, e1]
      show (((m_card_line [c]).map Rs.ok).bind _) = _
      rw [e3]
      rfl
    rw [this]
    rfl
end DD

set_option Elab.async false
set_option linter.all false
set_option maxRecDepth 100000
set_option maxHeartbeats 2000000
namespace DD
open PySem PySem.Spec PyProof.Rows L2
structure W3 where
  a : List Str
  s : List Str
  v : List Str
def wD (w : W3) : D := .tuple [tS w.a, tS w.s, tS w.v]
structure OkW (w : W3) : Prop where
  a : w.a.length ≤ 300
  s : w.s.length ≤ 300
  v : w.v.length ≤ 300
def w3 (ss : List Stp) : W3 := ⟨ssetS (nds ss).a, ssetS (oneF (nds ss)), ssetS (strOf (nds ss).v)⟩
def OkAll (w : W3) : Prop := (∀ n ∈ w.a, PyData.strOk n = true) ∧ (∀ n ∈ w.s, PyData.strOk n = true) ∧ (∀ n ∈ w.v, PyData.strOk n = true)
theorem sset_lenS (xs : List Str) : (ssetS xs).length ≤ xs.length := by
  have q1 : (ssetS xs).length = (nubS xs).length := (sortS_perm _).length_eq
  have q2 : ∀ (xs m : List Str), (xs.foldl addS m).length ≤ m.length + xs.length := by
    intro xs
    induction xs with
    | nil => intro m; simp
    | cons x r ih => intro m; have a1 := ih (addS m x); have a2 := addS_len (m := m) (k := x); rw [List.foldl_cons, List.length_cons]; omega
  have q3 := q2 xs []
  rw [q1]; unfold nubS; simpa using q3
theorem vol_ok {v : List D} (h : ∀ d ∈ v, d = .none ∨ d = .str "vol") : ∀ n ∈ strOf v, PyData.strOk n = true := fun n hn => by
  unfold strOf at hn
  obtain ⟨d, hd, e⟩ := List.mem_filterMap.mp hn
  rcases h d hd with rfl | rfl
  · cases e
  · cases e
    decide +kernel
theorem w3_ok {ss : List Stp} (h : OkS ss) (t60 : tot ss ≤ 60) : OkW (w3 ss) ∧ OkAll (w3 ss) := by
  have K := allF_ok (ps := []) h ok0
  have k1 : (nds ss).a.length ≤ 60 := Nat.le_trans K.la (by omega)
  have k2 : (nds ss).s.length ≤ 60 := Nat.le_trans K.ls (by omega)
  have k3 : (nds ss).v.length ≤ 60 := Nat.le_trans K.lv (by omega)
  refine ⟨⟨Nat.le_trans (sset_lenS _) (by omega), Nat.le_trans (sset_lenS _) (Nat.le_trans (List.length_filter_le _ _) (by omega)), Nat.le_trans (sset_lenS _) (Nat.le_trans (strOf_len _) (by omega))⟩, fun n hn => ?_, fun n hn => ?_, fun n hn => ?_⟩
  · exact okn_ok (K.a n (sset_memS.mp hn))
  · exact okn_ok (K.s n (List.mem_filter.mp (sset_memS.mp hn)).1)
  · exact vol_ok K.v n (sset_memS.mp hn)
def endPs : List Str → List Stp → List Str
  | ps, [] => ps
  | ps, s :: r => endPs (s.cs.foldl pF ps) r
theorem allF_app : ∀ (ss mm : List Stp) (ps : List Str) (t : Nd), allF ps (ss ++ mm) t = allF (endPs ps ss) mm (allF ps ss t)
  | [], _, _, _ => rfl
  | s :: r, mm, ps, t => allF_app r mm (s.cs.foldl pF ps) (s.cs.foldl (nF ps) (lF s.lib t))
theorem passL_app : ∀ (ss mm : List Stp) (ps : List Str), passL ps (ss ++ mm) = passL ps ss ++ passL (endPs ps ss) mm
  | [], _, _ => rfl
  | s :: r, mm, ps => by
    show ps :: passL (s.cs.foldl pF ps) (r ++ mm) = ps :: passL (s.cs.foldl pF ps) r ++ _
    rw [passL_app r mm (s.cs.foldl pF ps)]
    rfl
theorem tot_app : ∀ (ss mm : List Stp), tot (ss ++ mm) = tot ss + tot mm
  | [], mm => by show tot mm = 0 + tot mm; omega
  | s :: r, mm => by
    show s.cs.length + 1 + tot (r ++ mm) = s.cs.length + 1 + tot r + tot mm
    rw [tot_app r mm]
    omega
structure Sub (t u : Nd) : Prop where
  a : ∀ n ∈ t.a, n ∈ u.a
  s : ∀ n ∈ t.s, n ∈ u.s
  v : ∀ n ∈ t.v, n ∈ u.v
theorem Sub.refl (t : Nd) : Sub t t := ⟨fun _ h => h, fun _ h => h, fun _ h => h⟩
theorem Sub.trans {t u w : Nd} (h : Sub t u) (k : Sub u w) : Sub t w := ⟨fun n x => k.a n (h.a n x), fun n x => k.s n (h.s n x), fun n x => k.v n (h.v n x)⟩
theorem sub_n (pd : List Str) (t : Nd) (c : D) : Sub t (nF pd t c) := by
  unfold nF
  split
  · split
    · exact ⟨fun _ h => h, fun _ h => List.mem_append_left _ h, fun _ h => List.mem_append_left _ h⟩
    · exact ⟨fun _ h => List.mem_append_left _ h, fun _ h => h, fun _ h => List.mem_append_left _ h⟩
  · exact Sub.refl t
theorem sub_nl (pd : List Str) : ∀ (cs : List D) (t : Nd), Sub t (cs.foldl (nF pd) t)
  | [], t => Sub.refl t
  | c :: cs, t => (sub_n pd t c).trans (sub_nl pd cs _)
theorem sub_l (b : Bool) (t : Nd) : Sub t (lF b t) := by
  unfold lF
  split
  · exact ⟨fun _ h => h, fun _ h => List.mem_append_left _ h, fun _ h => h⟩
  · exact Sub.refl t
theorem sub_all : ∀ (ss : List Stp) (ps : List Str) (t : Nd), Sub t (allF ps ss t)
  | [], _, t => Sub.refl t
  | s :: r, ps, t => ((sub_l s.lib t).trans (sub_nl ps s.cs _)).trans (sub_all r _ _)
theorem sub_app (ss mm : List Stp) : Sub (nds ss) (nds (ss ++ mm)) := by
  unfold nds
  rw [allF_app]
  exact sub_all mm _ _
theorem strOf_mem {v : List D} {n : Str} : n ∈ strOf v ↔ .str n ∈ v := by
  unfold strOf
  rw [List.mem_filterMap]
  constructor
  · rintro ⟨d, hd, e⟩
    cases d <;> first | (cases e; done) | skip
    cases e
    exact hd
  · intro h
    exact ⟨_, h, rfl⟩
/-! all names -/
def nmsF (cs : List D) : List Str := (cs.filter isF).map nmOf
def libN (b : Bool) : List Str := if b = true then ["lib"] else []
def allN : List Stp → List Str
  | [] => []
  | s :: r => nmsF s.cs ++ libN s.lib ++ allN r
theorem mem_n (pd : List Str) (t : Nd) (c : D) (n : Str) : (n ∈ (nF pd t c).a ∨ n ∈ (nF pd t c).s) ↔ (n ∈ t.a ∨ n ∈ t.s ∨ n ∈ nmsF [c]) := by
  unfold nF nmsF
  cases h : isF c with
  | false =>
    rw [List.filter_cons_of_neg (by rw [h]; exact Bool.false_ne_true)]
    simp
  | true =>
    rw [List.filter_cons_of_pos h]
    cases (skOf c && !decide (nmOf c ∈ pd)) with
    | true =>
      simp
    | false =>
      simp
      constructor
      · rintro ((h | h) | h)
        · exact .inl h
        · exact .inr (.inr h)
        · exact .inr (.inl h)
      · rintro (h | h | h)
        · exact .inl (.inl h)
        · exact .inr h
        · exact .inl (.inr h)
theorem nms_cons (c : D) (cs : List D) : nmsF (c :: cs) = nmsF [c] ++ nmsF cs := by
  unfold nmsF
  cases h : isF c with
  | false => rw [List.filter_cons_of_neg (by rw [h]; exact Bool.false_ne_true), List.filter_cons_of_neg (by rw [h]; exact Bool.false_ne_true)]; rfl
  | true => rw [List.filter_cons_of_pos h, List.filter_cons_of_pos h]; rfl
theorem mem_nl (pd : List Str) (n : Str) : ∀ (cs : List D) (t : Nd), (n ∈ (cs.foldl (nF pd) t).a ∨ n ∈ (cs.foldl (nF pd) t).s) ↔ (n ∈ t.a ∨ n ∈ t.s ∨ n ∈ nmsF cs)
  | [], t => by simp [nmsF]
  | c :: cs, t => by
    rw [List.foldl_cons, mem_nl pd n cs, ← or_assoc, mem_n, nms_cons c cs, List.mem_append]
    simp only [or_assoc]
theorem mem_l (b : Bool) (t : Nd) (n : Str) : (n ∈ (lF b t).a ∨ n ∈ (lF b t).s) ↔ (n ∈ t.a ∨ n ∈ t.s ∨ n ∈ libN b) := by
  unfold lF libN
  cases b <;> simp
theorem or3 {P Q1 Q2 X R1 R2 Y A B Z : Prop} (h1 : P ↔ Q1 ∨ Q2 ∨ X) (h2 : Q1 ∨ Q2 ↔ R1 ∨ R2 ∨ Y) (h3 : R1 ∨ R2 ↔ A ∨ B ∨ Z) : P ↔ A ∨ B ∨ ((Y ∨ Z) ∨ X) := by
  constructor
  · intro h
    rcases h1.mp h with q | q | q
    · rcases h2.mp (.inl q) with u | u | u
      · rcases h3.mp (.inl u) with v | v | v
        · exact .inl v
        · exact .inr (.inl v)
        · exact .inr (.inr (.inl (.inr v)))
      · rcases h3.mp (.inr u) with v | v | v
        · exact .inl v
        · exact .inr (.inl v)
        · exact .inr (.inr (.inl (.inr v)))
      · exact .inr (.inr (.inl (.inl u)))
    · rcases h2.mp (.inr q) with u | u | u
      · rcases h3.mp (.inl u) with v | v | v
        · exact .inl v
        · exact .inr (.inl v)
        · exact .inr (.inr (.inl (.inr v)))
      · rcases h3.mp (.inr u) with v | v | v
        · exact .inl v
        · exact .inr (.inl v)
        · exact .inr (.inr (.inl (.inr v)))
      · exact .inr (.inr (.inl (.inl u)))
    · exact .inr (.inr (.inr q))
  · have up : (R1 ∨ R2) → P := fun r => h1.mpr (by
      rcases h2.mpr (r.elim .inl fun z => .inr (.inl z)) with q | q
      · exact .inl q
      · exact .inr (.inl q))
    have upY : Y → P := fun y => h1.mpr (by
      rcases h2.mpr (.inr (.inr y)) with q | q
      · exact .inl q
      · exact .inr (.inl q))
    rintro (h | h | (h | h) | h)
    · exact up (h3.mpr (.inl h))
    · exact up (h3.mpr (.inr (.inl h)))
    · exact upY h
    · exact up (h3.mpr (.inr (.inr h)))
    · exact h1.mpr (.inr (.inr h))
theorem mem_all (n : Str) : ∀ (ss : List Stp) (ps : List Str) (t : Nd), (n ∈ (allF ps ss t).a ∨ n ∈ (allF ps ss t).s) ↔ (n ∈ t.a ∨ n ∈ t.s ∨ n ∈ allN ss)
  | [], _, t => by simp [allF, allN]
  | s :: r, ps, t => by
    have h1 := mem_all n r (s.cs.foldl pF ps) (s.cs.foldl (nF ps) (lF s.lib t))
    have h2 := mem_nl ps n s.cs (lF s.lib t)
    have h3 := mem_l s.lib t n
    have e : n ∈ allN (s :: r) ↔ (n ∈ nmsF s.cs ∨ n ∈ libN s.lib) ∨ n ∈ allN r := by
      show n ∈ nmsF s.cs ++ libN s.lib ++ allN r ↔ _
      rw [List.mem_append, List.mem_append]
    rw [e]
    exact or3 h1 h2 h3
theorem allN_len : ∀ (ss : List Stp), (allN ss).length ≤ tot ss
  | [] => Nat.le_refl _
  | s :: r => by
    have h1 := allN_len r
    have h2 : (nmsF s.cs).length ≤ s.cs.length := by unfold nmsF; rw [List.length_map]; exact List.length_filter_le _ _
    have h3 : (libN s.lib).length ≤ 1 := by unfold libN; split <;> decide
    show (nmsF s.cs ++ libN s.lib ++ allN r).length ≤ s.cs.length + 1 + tot r
    rw [List.length_append, List.length_append]
    omega
theorem allN_ok {ss : List Stp} (h : OkS ss) : ∀ n ∈ allN ss, PyData.strOk n = true := fun n hn => by
  have K := allF_ok (ps := []) h ok0
  rcases (mem_all n ss [] nd0).mpr (.inr (.inr hn)) with q | q
  · exact okn_ok (K.a n q)
  · exact okn_ok (K.s n q)
/-- the names of both kinds, in a row -/
theorem names_row (ss : List Stp) : sortS ((w3 ss).a ++ (w3 ss).s) = ssetS (allN ss) := by
  refine sset_uniq (sortS_sorted _) ((sortS_perm _).nodup_iff.mpr ?_) fun z => ?_
  · refine List.nodup_append.mpr ⟨sset_nd _, sset_nd _, fun x hx y hy e => ?_⟩
    subst e
    have h1 := sset_memS.mp hx
    have h2 := (List.mem_filter.mp (sset_memS.mp hy)).2
    simp [h1] at h2
  · rw [(sortS_perm _).mem_iff, List.mem_append]
    show z ∈ ssetS _ ∨ z ∈ ssetS _ ↔ _
    rw [sset_memS, sset_memS]
    unfold oneF
    rw [List.mem_filter]
    have := mem_all z ss [] nd0
    have e : (z ∈ (nds ss).a ∨ z ∈ (nds ss).s) ↔ z ∈ allN ss := this.trans ⟨fun h => by
      rcases h with h | h | h
      · cases h
      · cases h
      · exact h, fun h => .inr (.inr h)⟩
    rw [← e]
    constructor
    · rintro (h | h)
      · exact .inl h
      · exact .inr h.1
    · rintro (h | h)
      · exact .inl h
      · by_cases c : z ∈ (nds ss).a
        · exact .inl c
        · exact .inr ⟨h, by simp [c]⟩
theorem add_tS (a s : List Str) (h : a.length ≤ 300) (k : s.length ≤ 300) : dAdd (tS a) (tS s) = some (tS (a ++ s)) := by
  show (if (a.map PyData.str).length + (s.map PyData.str).length ≤ cap then some (PyData.tuple (a.map PyData.str ++ s.map PyData.str)) else none) = _
  rw [if_pos (by rw [List.length_map, List.length_map]; exact cap_s (by omega)), ← List.map_append]
  rfl
theorem sortT_t {l : List Str} (h : l.length < 64) : dSortT [tS l] = some ((sortS l).map .str) := by
  show ((strsD (l.map PyData.str)).bind fun ns => if ns.length < 64 then some ((sortS ns).map PyData.str) else none) = _
  rw [strs_map]
  exact if_pos h
end DD

set_option Elab.async false
set_option linter.all false
set_option maxRecDepth 100000
set_option maxHeartbeats 4000000
namespace DD
open PySem PySem.Spec PyProof.Rows L2
/-! ### the cards that are drawn -/
def tr (x : Option D) : Bool := match x with
  | some (.bool b) => b
  | _ => false
theorem tr_eq {x : Option D} (h : tr x = true) : x = some (.bool true) := by
  unfold tr at h
  split at h
  · rw [h]
  · cases h
def restD : List D := rests0.map .tuple
structure Nms (nd : D) (m : Int) : Prop where
  pick : ∀ i : Int, 0 ≤ i → i < m → ∃ n ∈ nm4, dIx nd (.int i) = some (.str n)
  len : dLen [nd] = some (.int m)
  lo : 1 ≤ m
  hi : m ≤ 4
def ndA : D := .list [.str "a", .str "bb", .str "lib"]
def ndB : D := .list [.str "a", .str "q"]
theorem nmsA : Nms ndA 3 := ⟨fun i h0 h1 => by
  have : i = 0 ∨ i = 1 ∨ i = 2 := by omega
  rcases this with rfl | rfl | rfl
  · exact ⟨"a", by decide, rfl⟩
  · exact ⟨"bb", by decide, rfl⟩
  · exact ⟨"lib", by decide, rfl⟩, rfl, by decide, by decide⟩
theorem nmsB : Nms ndB 2 := ⟨fun i h0 h1 => by
  have : i = 0 ∨ i = 1 := by omega
  rcases this with rfl | rfl
  · exact ⟨"a", by decide, rfl⟩
  · exact ⟨"q", by decide, rfl⟩, rfl, by decide, by decide⟩
theorem pickR {i : Int} (h0 : 0 ≤ i) (h1 : i < 4) : ∃ r ∈ rests0, dIx (.list restD) (.int i) = some (.tuple r) := by
  have : i = 0 ∨ i = 1 ∨ i = 2 ∨ i = 3 := by omega
  rcases this with rfl | rfl | rfl | rfl
  · exact ⟨_, List.mem_cons_self, rfl⟩
  · exact ⟨_, List.mem_cons_of_mem _ List.mem_cons_self, rfl⟩
  · exact ⟨_, List.mem_cons_of_mem _ (List.mem_cons_of_mem _ List.mem_cons_self), rfl⟩
  · exact ⟨_, List.mem_cons_of_mem _ (List.mem_cons_of_mem _ (List.mem_cons_of_mem _ List.mem_cons_self)), rfl⟩
theorem pickH {i : Int} (h0 : 0 ≤ i) (h1 : i < 4) : ∃ n ∈ hows, dIx (.list [.str "old", .str "shared", .str "new", .str "more"]) (.int i) = some (.str n) := by
  have : i = 0 ∨ i = 1 ∨ i = 2 ∨ i = 3 := by omega
  rcases this with rfl | rfl | rfl | rfl
  · exact ⟨"old", by decide, rfl⟩
  · exact ⟨"shared", by decide, rfl⟩
  · exact ⟨"new", by decide, rfl⟩
  · exact ⟨"more", by decide, rfl⟩
def then3 : D := .list [.str "keep", .str "drop", .str "pass"]
def then2 : D := .list [.str "keep", .str "drop"]
theorem pickT3 {i : Int} (h0 : 0 ≤ i) (h1 : i < 3) : ∃ n ∈ thens, dIx then3 (.int i) = some (.str n) := by
  have : i = 0 ∨ i = 1 ∨ i = 2 := by omega
  rcases this with rfl | rfl | rfl
  · exact ⟨"keep", by decide, rfl⟩
  · exact ⟨"drop", by decide, rfl⟩
  · exact ⟨"pass", by decide, rfl⟩
theorem pickT2 {i : Int} (h0 : 0 ≤ i) (h1 : i < 2) : ∃ n ∈ thens, dIx then2 (.int i) = some (.str n) ∧ decide (n = "pass") = false := by
  have : i = 0 ∨ i = 1 := by omega
  rcases this with rfl | rfl
  · exact ⟨"keep", by decide, rfl, by decide +kernel⟩
  · exact ⟨"drop", by decide, rfl, by decide +kernel⟩
theorem rest_eq : rests0.map (fun r => dEq (.tuple r) (.tuple [.none, .none, .none])) = [some (.bool true), some (.bool false), some (.bool false), some (.bool false)] := by kernel_rfl
theorem rest_b {r : List D} (h : r ∈ rests0) : ∃ b : Bool, dEq (.tuple r) (.tuple [.none, .none, .none]) = some (.bool b) ∧ (b = true → r = [.none, .none, .none]) := by
  have e := rest_eq
  unfold rests0 at e h
  simp only [List.map_cons, List.map_nil, List.cons.injEq, and_true] at e
  obtain ⟨e1, e2, e3, e4⟩ := e
  simp only [List.mem_cons, List.mem_nil_iff, or_false] at h
  rcases h with rfl | rfl | rfl | rfl
  · exact ⟨_, e1, fun _ => rfl⟩
  · exact ⟨_, e2, fun z => (nomatch z)⟩
  · exact ⟨_, e3, fun z => (nomatch z)⟩
  · exact ⟨_, e4, fun z => (nomatch z)⟩
theorem add_rest {n : Str} {r : List D} (h : r ∈ rests0) : dAdd (.tuple [.str n]) (.tuple r) = some (.tuple (.str n :: r)) := by
  unfold rests0 at h
  simp only [List.mem_cons, List.mem_nil_iff, or_false] at h
  rcases h with rfl | rfl | rfl | rfl <;> rfl
theorem in_fcards {n h t : Str} {r : List D} (h1 : n ∈ nm4) (h2 : r ∈ rests) (h3 : h ∈ hows) (h4 : t ∈ thens) : fcard n r h t ∈ fcards :=
  List.mem_flatMap.mpr ⟨n, h1, List.mem_flatMap.mpr ⟨r, h2, List.mem_flatMap.mpr ⟨h, h3, List.mem_map.mpr ⟨t, h4, rfl⟩⟩⟩⟩
/-- a card that is drawn, before its generation is told -/
def InB (c : D) : Prop := ∃ n r h t, c = fcard n r h t ∧ n ∈ nm4 ∧ r ∈ rests0 ∧ h ∈ hows ∧ t ∈ thens ∧ (t = "pass" → r = [.none, .none, .none])
def bc_in : En → Option Fl :=
  (sSeq (sAsg (mOp dIx (mVar 2) (mCall (lim 3 m__law_drawn) (mCons (mVar 0) (mCons (mOp dAdd (mOp dAdd (mVar 1) (mC (.int 1))) (mOp dMul (mC (.int 6)) (mVar 4))) (mCons (mCall dLen (mCons (mVar 2) mNil)) mNil))))) (gSet 5))
  (sSeq (sAsg (mCall (lim 3 m__law_drawn) (mCons (mVar 0) (mCons (mOp dAdd (mOp dAdd (mVar 1) (mC (.int 2))) (mOp dMul (mC (.int 6)) (mVar 4))) (mCons (mC (.int 8)) mNil)))) (gSet 6))
  (sSeq (sAsg (mList (mLst (mCons (mTup (mCons (mC .none) (mCons (mC .none) (mCons (mC .none) mNil)))) (mCons (mTup (mCons (mC (.int 0)) (mCons (mC .none) (mCons (mC .none) mNil)))) (mCons (mTup (mCons (mC .none) (mCons (mC (.str ("mem" : Str))) (mCons (mC .none) mNil)))) (mCons (mTup (mCons (mC .none) (mCons (mC .none) (mCons (mC (.str ("vol" : Str))) mNil)))) mNil)))))) (gSet 7))
  (sSeq (sAsg (mOp dIx (mVar 7) (mIfE (mTest (mOp dLt (mVar 6) (mC (.int 4)))) (mVar 6) (mC (.int 0)))) (gSet 8))
  (sSeq (sAsg (mOp dIx (mList (mLst (mCons (mC (.str ("old" : Str))) (mCons (mC (.str ("shared" : Str))) (mCons (mC (.str ("new" : Str))) (mCons (mC (.str ("more" : Str))) mNil)))))) (mCall (lim 3 m__law_drawn) (mCons (mVar 0) (mCons (mOp dAdd (mOp dAdd (mVar 1) (mC (.int 3))) (mOp dMul (mC (.int 6)) (mVar 4))) (mCons (mC (.int 4)) mNil))))) (gSet 9))
  (sSeq (sAsg (mList (mIfL (mTest (mOp dEq (mVar 8) (mTup (mCons (mC .none) (mCons (mC .none) (mCons (mC .none) mNil)))))) (mLst (mCons (mC (.str ("keep" : Str))) (mCons (mC (.str ("drop" : Str))) (mCons (mC (.str ("pass" : Str))) mNil)))) (mLst (mCons (mC (.str ("keep" : Str))) (mCons (mC (.str ("drop" : Str))) mNil))))) (gSet 10))
  (sSeq (sAsg (mOp dIx (mVar 10) (mCall (lim 3 m__law_drawn) (mCons (mVar 0) (mCons (mOp dAdd (mOp dAdd (mVar 1) (mC (.int 4))) (mOp dMul (mC (.int 6)) (mVar 4))) (mCons (mCall dLen (mCons (mVar 10) mNil)) mNil))))) (gSet 11))
  (sAppend 3 (mTup (mCons (mOp dAdd (mTup (mCons (mVar 5) mNil)) (mVar 8)) (mCons (mVar 9) (mCons (mVar 11) mNil))))))))))))
theorem bc_step (ns : List Int) (h63 : ns.length ≤ 63) (at0 k : Int) {nd : D} {m : Int} (N : Nms nd m) (ha : 0 ≤ at0) (ha2 : at0 ≤ 5000) (hk : 0 ≤ k) (hk2 : k < 4) (ds : List D) (hd : ds.length ≤ 800) (y5 y6 y7 y8 y9 y10 y11 : Option Sl) :
    ∃ c z5 z6 z7 z8 z9 z10 z11, InB c ∧ bc_in [some (.val (.list (ns.map .int))), some (.val (.int at0)), some (.val nd), some (.own ds), some (.val (.int k)), y5, y6, y7, y8, y9, y10, y11] =
      some (.nx [some (.val (.list (ns.map .int))), some (.val (.int at0)), some (.val nd), some (.own (ds ++ [c])), some (.val (.int k)), z5, z6, z7, z8, z9, z10, z11]) := by
  obtain ⟨r1, p1, a1, b1⟩ := drawn_ok ns h63 (at0 + 1 + 6 * k) m (by omega) (by omega) N.lo (by have := N.hi; omega)
  obtain ⟨r2, p2, a2, b2⟩ := drawn_ok ns h63 (at0 + 2 + 6 * k) 8 (by omega) (by omega) (by decide) (by decide)
  obtain ⟨r3, p3, a3, b3⟩ := drawn_ok ns h63 (at0 + 3 + 6 * k) 4 (by omega) (by omega) (by decide) (by decide)
  obtain ⟨r4, p4, a4, b4⟩ := drawn_ok ns h63 (at0 + 4 + 6 * k) 3 (by omega) (by omega) (by decide) (by decide)
  obtain ⟨r5, p5, a5, b5⟩ := drawn_ok ns h63 (at0 + 4 + 6 * k) 2 (by omega) (by omega) (by decide) (by decide)
  generalize PyData.list (ns.map .int) = L at *
  have q := dMul_r (i := 6) (j := k) (by omega) (by omega)
  obtain ⟨n, n1, n2⟩ := N.pick r1 a1 b1
  obtain ⟨h, h1, h2⟩ := pickH a3 b3
  have lt : dLt (.int r2) (.int 4) = some (.bool (decide (r2 < 4))) := rfl
  have hw : ∃ w : Int, (if decide (r2 < 4) = true then some (PyData.int r2) else some (.int 0)) = some (.int w) ∧ 0 ≤ w ∧ w < 4 := by
    by_cases c : r2 < 4
    · exact ⟨r2, by simp [c], a2, c⟩
    · exact ⟨0, by simp [c], by decide, by decide⟩
  obtain ⟨w, w1, w2, w3⟩ := hw
  obtain ⟨r, e1, e2⟩ := pickR w2 w3
  obtain ⟨b, e3, e5⟩ := rest_b e1
  have e4 := add_rest (n := n) e1
  have l4 := N.len
  have l3 : dLen [.list [.str "keep", .str "drop", .str "pass"]] = some (.int 3) := by kernel_rfl
  have l2 : dLen [.list [.str "keep", .str "drop"]] = some (.int 2) := by kernel_rfl
  have hz : ds.length < cap := Nat.lt_of_le_of_lt hd (by decide)
  have e2' : dIx (.list [.tuple [.none, .none, .none], .tuple [.int 0, .none, .none], .tuple [.none, .str "mem", .none], .tuple [.none, .none, .str "vol"]]) (.int w) = some (.tuple r) := e2
  cases b with
  | true =>
    obtain ⟨t, t1, t2⟩ := pickT3 a4 b4
    have t2' : dIx (.list [.str "keep", .str "drop", .str "pass"]) (.int r4) = some (.str t) := t2
    refine ⟨fcard n r h t, some (.val (.str n)), some (.val (.int r2)), some (.val (.list restD)), some (.val (.tuple r)), some (.val (.str h)), some (.val then3), some (.val (.str t)), ⟨n, r, h, t, rfl, n1, e1, h1, t1, fun _ => e5 rfl⟩, ?_⟩
    simp only [bc_in, sAppend, sSeq, sAsg, sIf, sRet, sNext, sOwn, sFrz, sDrop, sPar, sPar3, sParOV, sParOO, sParOOO, sStop, mOp, mUn, mVar, mC, mTest, mTru, mIfE, mList, mLst, mStar, mCons, mNil, mTup, mCall, mCallL, mAnd, mOr, mNot, mAndV, mOrV, mNotV, mIter, mSl, mSlL, mPart, mNoPart, mIfL, mCatL, mCatV, gSet, gTupM, gConsM, gNilM, isI, frz, wipeM, lim, isB, its, List.map_cons, List.map_nil, List.length_cons, List.length_nil, List.replicate, List.replicate_zero, List.cons_append, List.nil_append, List.getElem?_cons_zero, List.getElem?_cons_succ, List.set_cons_zero, List.set_cons_succ, Option.bind_some, Option.bind_none, Option.map_some, Option.map_none, if_true, if_false, if_pos, Bool.not_true, Bool.not_false, Bool.false_eq_true, reduceCtorEq, dAdd_of, q, l4, p1, n2, p2, sz1, sz2, sz3, sz4, lt, w1, e2', p3, h2, e3, l3, p4, t2', e4, hz]
    rfl
  | false =>
    obtain ⟨t, t1, t2, t3⟩ := pickT2 a5 b5
    have t2' : dIx (.list [.str "keep", .str "drop"]) (.int r5) = some (.str t) := t2
    refine ⟨fcard n r h t, some (.val (.str n)), some (.val (.int r2)), some (.val (.list restD)), some (.val (.tuple r)), some (.val (.str h)), some (.val then2), some (.val (.str t)), ⟨n, r, h, t, rfl, n1, e1, h1, t1, fun z => absurd z (of_decide_eq_false t3)⟩, ?_⟩
    simp only [bc_in, sAppend, sSeq, sAsg, sIf, sRet, sNext, sOwn, sFrz, sDrop, sPar, sPar3, sParOV, sParOO, sParOOO, sStop, mOp, mUn, mVar, mC, mTest, mTru, mIfE, mList, mLst, mStar, mCons, mNil, mTup, mCall, mCallL, mAnd, mOr, mNot, mAndV, mOrV, mNotV, mIter, mSl, mSlL, mPart, mNoPart, mIfL, mCatL, mCatV, gSet, gTupM, gConsM, gNilM, isI, frz, wipeM, lim, isB, its, List.map_cons, List.map_nil, List.length_cons, List.length_nil, List.replicate, List.replicate_zero, List.cons_append, List.nil_append, List.getElem?_cons_zero, List.getElem?_cons_succ, List.set_cons_zero, List.set_cons_succ, Option.bind_some, Option.bind_none, Option.map_some, Option.map_none, if_true, if_false, if_pos, Bool.not_true, Bool.not_false, Bool.false_eq_true, reduceCtorEq, dAdd_of, q, l4, p1, n2, p2, sz1, sz2, sz3, sz4, lt, w1, e2', p3, h2, e3, l2, p5, t2', e4, hz]
    rfl
theorem lc_in (ns : List Int) (h63 : ns.length ≤ 63) (at0 : Int) {nd : D} {m : Int} (N : Nms nd m) (ha : 0 ≤ at0) (ha2 : at0 ≤ 5000) : ∀ (is : List D), (∀ d ∈ is, ∃ k : Int, d = .int k ∧ 0 ≤ k ∧ k < 4) → ∀ (ds : List D) (y4 y5 y6 y7 y8 y9 y10 y11 : Option Sl), ds.length + is.length ≤ 800 →
    ∃ cs z4 z5 z6 z7 z8 z9 z10 z11, (∀ c ∈ cs, InB c) ∧ cs.length = is.length ∧ loop (gSet 4) bc_in is [some (.val (.list (ns.map .int))), some (.val (.int at0)), some (.val nd), some (.own ds), y4, y5, y6, y7, y8, y9, y10, y11] =
      some (.nx [some (.val (.list (ns.map .int))), some (.val (.int at0)), some (.val nd), some (.own (ds ++ cs)), z4, z5, z6, z7, z8, z9, z10, z11])
  | [], _, ds, y4, y5, y6, y7, y8, y9, y10, y11, _ => ⟨[], y4, y5, y6, y7, y8, y9, y10, y11, fun _ z => (nomatch z), rfl, by rw [List.append_nil]; rfl⟩
  | d :: is, h, ds, y4, y5, y6, y7, y8, y9, y10, y11, hl => by
    obtain ⟨k, rfl, k1, k2⟩ := h d List.mem_cons_self
    rw [List.length_cons] at hl
    obtain ⟨c, u5, u6, u7, u8, u9, u10, u11, c1, hb⟩ := bc_step ns h63 at0 k N ha ha2 k1 k2 ds (by omega) y5 y6 y7 y8 y9 y10 y11
    obtain ⟨cs, z4, z5, z6, z7, z8, z9, z10, z11, i1, i2, i3⟩ := lc_in ns h63 at0 N ha ha2 is (fun x hx => h x (List.mem_cons_of_mem _ hx)) (ds ++ [c]) (some (.val (.int k))) u5 u6 u7 u8 u9 u10 u11 (by rw [List.length_append]; show ds.length + 1 + is.length ≤ 800; omega)
    refine ⟨c :: cs, z4, z5, z6, z7, z8, z9, z10, z11, fun x hx => ?_, by rw [List.length_cons, List.length_cons, i2], ?_⟩
    · rcases List.mem_cons.mp hx with rfl | hx
      · exact c1
      · exact i1 x hx
    · refine (loop_cons rfl hb).trans (i3.trans ?_)
      rw [List.append_assoc]
      rfl
theorem upto_mem {n : Nat} {d : D} (h : d ∈ upto 0 n) : ∃ k : Int, d = .int k ∧ 0 ≤ k ∧ k < n := by
  obtain ⟨i, hi, rfl⟩ := List.mem_map.mp h
  have := List.mem_range.mp hi
  exact ⟨0 + (i : Int), rfl, by omega, by omega⟩
theorem mRange_of {m : En → Option (List D)} {ρ : En} {j : Int} (h : m ρ = some [.int j]) (k : -(2 ^ 62) ≤ j ∧ j < 2 ^ 62) : mRange m ρ = some (upto 0 j.toNat) := by
  unfold mRange
  rw [h]
  show (if -(2 ^ 62) ≤ j ∧ j < 2 ^ 62 then some (upto 0 j.toNat) else none) = _
  rw [if_pos k]
theorem range_of {m : En → Option D} {ρ : En} {n : Nat} (h : m ρ = some (.int n)) (hn : n ≤ 1000) : mRange1 (mCons m mNil) ρ = some (upto 0 n) := by
  have s1 : (fun ρ => (mCons m mNil ρ).bind fun ds => if ds.length = 1 then some ds else none) ρ = some [.int n] := by
    show ((mCons m mNil ρ).bind fun ds => if ds.length = 1 then some ds else none) = _
    rw [cons_of h nil_of]
    rfl
  have k : -(2 ^ 62) ≤ (n : Int) ∧ (n : Int) < 2 ^ 62 := ⟨by omega, by omega⟩
  have s2 := mRange_of (m := fun ρ => (mCons m mNil ρ).bind fun ds => if ds.length = 1 then some ds else none) (ρ := ρ) s1 k
  rw [Int.toNat_natCast] at s2
  exact s2
theorem cards_ok (ns : List Int) (h63 : ns.length ≤ 63) (at0 : Int) {nd : D} {m : Int} (N : Nms nd m) (ha : 0 ≤ at0) (ha2 : at0 ≤ 5000) : ∃ cs, m__law_cards [.list (ns.map .int), .int at0, nd] = some (.tuple cs) ∧ (∀ c ∈ cs, c = dcard ∨ InB c) ∧ cs.length ≤ 4 := by
  obtain ⟨r0, p0, a0, b0⟩ := drawn_ok ns h63 at0 4 (by omega) (by omega) (by decide) (by decide)
  obtain ⟨r1, p1, a1, b1⟩ := drawn_ok ns h63 (at0 + 20) 4 (by omega) (by omega) (by decide) (by decide)
  obtain ⟨j, rfl⟩ : ∃ j : Nat, r0 = (j : Int) := ⟨r0.toNat, by omega⟩
  obtain ⟨cs, z4, z5, z6, z7, z8, z9, z10, z11, i1, i2, i3⟩ := lc_in ns h63 at0 N ha ha2 (upto 0 j) (fun d hd => by
    obtain ⟨k, e, k1, k2⟩ := upto_mem hd
    exact ⟨k, e, k1, by omega⟩) [] none none none none none none none none (by unfold upto; simp; omega)
  have hl : cs.length ≤ 3 := by rw [i2]; unfold upto; simp; omega
  generalize PyData.list (ns.map .int) = L at *
  have s1 : sOwn 3 (mLst mNil) (start0 12 [L, .int at0, nd]) = some (.nx [some (.val L), some (.val (.int at0)), some (.val nd), some (.own []), none, none, none, none, none, none, none, none]) := rfl
  have s2 : sFor (mRange1 (mCons (mCall (lim 3 m__law_drawn) (mCons (mVar 0) (mCons (mVar 1) (mCons (mC (.int 4)) mNil)))) mNil)) (gSet 4) bc_in [some (.val L), some (.val (.int at0)), some (.val nd), some (.own []), none, none, none, none, none, none, none, none] =
      some (.nx [some (.val L), some (.val (.int at0)), some (.val nd), some (.own cs), z4, z5, z6, z7, z8, z9, z10, z11]) := by
    show (mRange1 _ _).bind _ = _
    rw [range_of (n := j) (show mCall (lim 3 m__law_drawn) (mCons (mVar 0) (mCons (mVar 1) (mCons (mC (.int 4)) mNil))) [some (.val L), some (.val (.int at0)), some (.val nd), some (.own []), none, none, none, none, none, none, none, none] = some (.int j) from p0) (by omega)]
    exact i3
  by_cases c : r1 = 0
  · refine ⟨cs ++ [dcard], mDef_rt ?_, fun x hx => ?_, by rw [List.length_append]; exact Nat.succ_le_succ hl⟩
    · have e : dEq (.int r1) (.int 0) = some (.bool true) := by rw [c]; kernel_rfl
      have s3 : sIf (mTest (mOp dEq (mCall (lim 3 m__law_drawn) (mCons (mVar 0) (mCons (mOp dAdd (mVar 1) (mC (.int 20))) (mCons (mC (.int 4)) mNil)))) (mC (.int 0))))
          (sAppend 3 (mTup (mCons (mC (.str ("data" : Str))) (mCons (mTup (mCons (mTup (mCons (mC (.int 1)) (mCons (mC (.int 2)) mNil))) (mCons (mTup (mCons (mC (.int 3)) mNil)) mNil))) mNil)))) sNext
          [some (.val L), some (.val (.int at0)), some (.val nd), some (.own cs), z4, z5, z6, z7, z8, z9, z10, z11] = some (.nx [some (.val L), some (.val (.int at0)), some (.val nd), some (.own (cs ++ [dcard])), z4, z5, z6, z7, z8, z9, z10, z11]) := by
        have hz : cs.length < cap := Nat.lt_of_le_of_lt hl (by decide)
        simp only [sAppend, sSeq, sAsg, sIf, sRet, sNext, sOwn, sFrz, sDrop, sPar, sPar3, sParOV, sParOO, sParOOO, sStop, mOp, mUn, mVar, mC, mTest, mTru, mIfE, mList, mLst, mStar, mCons, mNil, mTup, mCall, mCallL, mAnd, mOr, mNot, mAndV, mOrV, mNotV, mIter, mSl, mSlL, mPart, mNoPart, mIfL, mCatL, mCatV, gSet, gTupM, gConsM, gNilM, isI, frz, wipeM, lim, isB, its, List.map_cons, List.map_nil, List.length_cons, List.length_nil, List.replicate, List.replicate_zero, List.cons_append, List.nil_append, List.getElem?_cons_zero, List.getElem?_cons_succ, List.set_cons_zero, List.set_cons_succ, Option.bind_some, Option.bind_none, Option.map_some, Option.map_none, if_true, if_false, if_pos, Bool.not_true, Bool.not_false, Bool.false_eq_true, reduceCtorEq, dAdd_of, p1, e, sz1, sz2, hz]
        rfl
      unfold b__law_cards
      exact (seq_nx s1).trans ((seq_nx s2).trans ((seq_nx s3).trans rfl))
    · rcases List.mem_append.mp hx with h | h
      · exact .inr (i1 x h)
      · exact .inl (List.mem_singleton.mp h)
  · refine ⟨cs, mDef_rt ?_, fun x hx => .inr (i1 x hx), by omega⟩
    have e : dEq (.int r1) (.int 0) = some (.bool false) := by
      rw [dEq_of ((lay_int (i := r1)).shaped (by decide)) ((lay_int (i := 0)).shaped (by decide))]
      show some (PyData.bool (r1 == 0)) = _
      rw [beq_eq_false_iff_ne.mpr c]
    have s3 : sIf (mTest (mOp dEq (mCall (lim 3 m__law_drawn) (mCons (mVar 0) (mCons (mOp dAdd (mVar 1) (mC (.int 20))) (mCons (mC (.int 4)) mNil)))) (mC (.int 0))))
        (sAppend 3 (mTup (mCons (mC (.str ("data" : Str))) (mCons (mTup (mCons (mTup (mCons (mC (.int 1)) (mCons (mC (.int 2)) mNil))) (mCons (mTup (mCons (mC (.int 3)) mNil)) mNil))) mNil)))) sNext
        [some (.val L), some (.val (.int at0)), some (.val nd), some (.own cs), z4, z5, z6, z7, z8, z9, z10, z11] = some (.nx [some (.val L), some (.val (.int at0)), some (.val nd), some (.own cs), z4, z5, z6, z7, z8, z9, z10, z11]) := by
      simp only [sSeq, sAsg, sIf, sRet, sNext, sOwn, sFrz, sDrop, sPar, sPar3, sParOV, sParOO, sParOOO, sStop, mOp, mUn, mVar, mC, mTest, mTru, mIfE, mList, mLst, mStar, mCons, mNil, mTup, mCall, mCallL, mAnd, mOr, mNot, mAndV, mOrV, mNotV, mIter, mSl, mSlL, mPart, mNoPart, mIfL, mCatL, mCatV, gSet, gTupM, gConsM, gNilM, isI, frz, wipeM, lim, isB, its, List.map_cons, List.map_nil, List.length_cons, List.length_nil, List.replicate, List.replicate_zero, List.cons_append, List.nil_append, List.getElem?_cons_zero, List.getElem?_cons_succ, List.set_cons_zero, List.set_cons_succ, Option.bind_some, Option.bind_none, Option.map_some, Option.map_none, if_true, if_false, if_pos, Bool.not_true, Bool.not_false, Bool.false_eq_true, reduceCtorEq, dAdd_of, p1, e]
    unfold b__law_cards
    exact (seq_nx s1).trans ((seq_nx s2).trans ((seq_nx s3).trans rfl))
end DD

set_option Elab.async false
set_option linter.all false
set_option maxRecDepth 100000
set_option maxHeartbeats 4000000
namespace DD
open PySem PySem.Spec PyProof.Rows L2
/-! ### what is asked of each card -/
def okP (n : Str) : List D := (rests.flatMap fun r => hows.flatMap fun h => thens.map fun t => fcard n r h t).filter fun c => !(psOf c && !alOf c)
def lineS (c : D) : Str := match m_card_line [c] with
  | some (.str s) => s
  | _ => ""
def factG (c : D) : List (Option D) := [m_is_file_card [c], m_card_line [c], (m_card_in [wsD (lineS c)]).bind okR, m__law_again [.str (lineS c)]]
def holdG (c : D) : List (Option D) := [some (.bool true), some (.str (lineS c)), some c, some (.str (lineS c))]
theorem facts_1 : (okP "a").map factG = (okP "a").map holdG := by kernel_rfl
theorem facts_2 : (okP "bb").map factG = (okP "bb").map holdG := by kernel_rfl
theorem facts_3 : (okP "lib").map factG = (okP "lib").map holdG := by kernel_rfl
theorem facts_4 : (okP "q").map factG = (okP "q").map holdG := by kernel_rfl
theorem tks_1 : (okP "a").all (fun c => PyData.strOk (lineS c) && decide ((lineS c).length ≤ 60)) = true := by kernel_rfl
theorem tks_2 : (okP "bb").all (fun c => PyData.strOk (lineS c) && decide ((lineS c).length ≤ 60)) = true := by kernel_rfl
theorem tks_3 : (okP "lib").all (fun c => PyData.strOk (lineS c) && decide ((lineS c).length ≤ 60)) = true := by kernel_rfl
theorem tks_4 : (okP "q").all (fun c => PyData.strOk (lineS c) && decide ((lineS c).length ≤ 60)) = true := by kernel_rfl
def InG (c : D) : Prop := ∃ n r h t, c = fcard n r h t ∧ n ∈ nm4 ∧ r ∈ rests ∧ h ∈ hows ∧ t ∈ thens ∧ (t = "pass" → r = [.none, .none, .none])
theorem InG.f {c : D} (h : InG c) : c ∈ fcards := by
  obtain ⟨n, r, h, t, rfl, h1, h2, h3, h4, _⟩ := h
  exact in_fcards h1 h2 h3 h4
theorem InG.p {c : D} (g : InG c) : ∃ n ∈ nm4, c ∈ okP n := by
  obtain ⟨n, r, h, t, rfl, h1, h2, h3, h4, h5⟩ := g
  refine ⟨n, h1, List.mem_filter.mpr ⟨List.mem_flatMap.mpr ⟨r, h2, List.mem_flatMap.mpr ⟨h, h3, List.mem_map.mpr ⟨t, h4, rfl⟩⟩⟩, ?_⟩⟩
  show (!(decide (t = "pass") && !alOf (fcard n r h t))) = true
  by_cases e : t = "pass"
  · rw [h5 e]
    show (!(decide (t = "pass") && !true)) = true
    rw [Bool.not_true, Bool.and_false]
    rfl
  · rw [decide_eq_false e]
    rfl
structure CG (c : D) : Prop where
  card : m_is_file_card [c] = some (.bool true)
  line : m_card_line [c] = some (.str (lineS c))
  back : (m_card_in [wsD (lineS c)]).bind okR = some c
  again : m__law_again [.str (lineS c)] = some (.str (lineS c))
  tk : Tk (lineS c)
  le : (lineS c).length ≤ 60
  lay : Lay 3 c
theorem cg_of {c : D} {l : List D} (h : c ∈ l) (f : l.map factG = l.map holdG) (k : l.all (fun c => PyData.strOk (lineS c) && decide ((lineS c).length ≤ 60)) = true) (y : Lay 3 c) : CG c := by
  have e := map_eq f c h
  have q := List.all_eq_true.mp k c h
  unfold factG holdG at e
  simp only [List.cons.injEq, and_true] at e
  obtain ⟨e1, e2, e3, e4⟩ := e
  rw [Bool.and_eq_true] at q
  have q2 := of_decide_eq_true q.2
  exact ⟨e1, e2, e3, e4, ⟨q.1, by omega⟩, q2, y⟩
theorem InG.cg {c : D} (g : InG c) : CG c := by
  have y := (cf c g.f).lay
  obtain ⟨n, h1, h2⟩ := g.p
  unfold nm4 at h1
  simp only [List.mem_cons, List.mem_nil_iff, or_false] at h1
  rcases h1 with rfl | rfl | rfl | rfl
  · exact cg_of h2 facts_1 tks_1 y
  · exact cg_of h2 facts_2 tks_2 y
  · exact cg_of h2 facts_3 tks_3 y
  · exact cg_of h2 facts_4 tks_4 y
end DD

set_option Elab.async false
set_option linter.all false
set_option maxRecDepth 100000
set_option maxHeartbeats 4000000
namespace DD
open PySem PySem.Spec PyProof.Rows L2
/-! ### unlike cards have unlike lines -/
def oI : Option Int → D
  | none => .none
  | some i => .int i
def oS : Option Str → D
  | none => .none
  | some s => .str s
theorem oI_eq {a b : Option Int} (h : PyData.eqv (oI a) (oI b) = true) : a = b := by
  cases a <;> cases b <;> simp_all [oI, PyData.eqv]
theorem oS_eq {a b : Option Str} (h : PyData.eqv (oS a) (oS b) = true) : a = b := by
  cases a <;> cases b <;> simp_all [oS, PyData.eqv]
theorem rest_form {r : List D} (h : r ∈ rests) : ∃ a b c, r = [oI a, oS b, oS c] := by
  unfold rests gens at h
  simp only [List.mem_cons, List.map_cons, List.map_nil, List.mem_append, List.mem_nil_iff, or_false] at h
  rcases h with (rfl | rfl | rfl) | (rfl | rfl | rfl | rfl | rfl | rfl | rfl | rfl | rfl)
  · exact ⟨none, none, none, rfl⟩
  · exact ⟨none, some "mem", none, rfl⟩
  · exact ⟨none, none, some "vol", rfl⟩
  all_goals exact ⟨some _, none, none, rfl⟩
theorem str_eq {a b : Str} (h : PyData.eqv (.str a) (.str b) = true) : a = b := by
  rw [eqv_str] at h
  exact of_decide_eq_true h
theorem eqv_t3 {a b c d e f : D} : PyData.eqv (.tuple [a, b, c]) (.tuple [d, e, f]) = (PyData.eqv a d && (PyData.eqv b e && PyData.eqv c f)) := by simp [PyData.eqv, PyData.eqvAll]
theorem eqv_t4 {a b c g d e f h : D} : PyData.eqv (.tuple [a, b, c, g]) (.tuple [d, e, f, h]) = (PyData.eqv a d && (PyData.eqv b e && (PyData.eqv c f && PyData.eqv g h))) := by simp [PyData.eqv, PyData.eqvAll]
theorem card_same {c d : D} (g : InG c) (k : InG d) (e : PyData.eqv c d = true) : c = d := by
  obtain ⟨n, r, h, t, rfl, _, h2, _⟩ := g
  obtain ⟨n', r', h', t', rfl, _, h2', _⟩ := k
  obtain ⟨a, b, c, rfl⟩ := rest_form h2
  obtain ⟨a', b', c', rfl⟩ := rest_form h2'
  unfold fcard at e
  rw [eqv_t3, eqv_t4] at e
  simp only [Bool.and_eq_true] at e
  obtain ⟨⟨e1, e2, e3, e4⟩, e5, e6⟩ := e
  rw [str_eq e1, oI_eq e2, oS_eq e3, oS_eq e4, str_eq e5, str_eq e6]
theorem line_same {c d : D} (g : InG c) (k : InG d) : PyData.eqv c d = decide (lineS c = lineS d) := by
  have G := g.cg
  have K := k.cg
  by_cases h : lineS c = lineS d
  · have b1 := G.back
    rw [h, K.back] at b1
    injection b1 with b1
    subst b1
    rw [decide_eq_true rfl]
    exact SeqAt.eqv_refl _ G.lay.1
  · rw [decide_eq_false h]
    cases e : PyData.eqv c d with
    | false => rfl
    | true => exact absurd (congrArg lineS (card_same g k e)) h
/-! ### a generation is told -/
def bkR (r : List D) (k : Int) : List D := match r with
  | [.int _, a, b] => [.int k, a, b]
  | r => r
def bkE : En → Option D :=
  (mIfE (mTest (mOp dEq (mOp dIx (mOp dIx (mVar 2) (mC (.int 0))) (mC (.int 1))) (mC (.int 0)))) (mOp dAdd (mTup (mCons (mOp dAdd (mTup (mCons (mOp dIx (mOp dIx (mVar 2) (mC (.int 0))) (mC (.int 0))) (mCons (mVar 3) mNil))) (mSlY (mOp dIx (mVar 2) (mC (.int 0))) (mPart (mC (.int 2))) mNoPart)) mNil)) (mSlY (mVar 2) (mPart (mC (.int 1))) mNoPart)) (mVar 2))
theorem back_eq {n h t : Str} {r : List D} (hr : r ∈ rests0) (k : Int) (x0 x1 x4 x5 x6 x7 x8 x9 x10 x11 x12 x13 : Option Sl) :
    bkE [x0, x1, some (.val (fcard n r h t)), some (.val (.int k)), x4, x5, x6, x7, x8, x9, x10, x11, x12, x13] = some (fcard n (bkR r k) h t) := by
  unfold rests0 at hr
  simp only [List.mem_cons, List.mem_nil_iff, or_false] at hr
  rcases hr with rfl | rfl | rfl | rfl <;> kernel_rfl
theorem bkR_in {r : List D} (hr : r ∈ rests0) {k : Int} (hk : k ∈ gens) : bkR r k ∈ rests := by
  unfold rests0 at hr
  simp only [List.mem_cons, List.mem_nil_iff, or_false] at hr
  unfold rests
  rcases hr with rfl | rfl | rfl | rfl
  · exact List.mem_append_left _ (by simp [bkR])
  · exact List.mem_append_right _ (List.mem_map.mpr ⟨k, hk, rfl⟩)
  · exact List.mem_append_left _ (by simp [bkR])
  · exact List.mem_append_left _ (by simp [bkR])
def bkC (k : Int) (c : D) : D := match c with
  | .tuple [.tuple (n :: r), h, t] => .tuple [.tuple (n :: bkR r k), h, t]
  | c => c
theorem bkC_in {c : D} (h : InB c) {k : Int} (hk : k ∈ gens) : InG (bkC k c) := by
  obtain ⟨n, r, h, t, rfl, h1, h2, h3, h4, h5⟩ := h
  exact ⟨n, bkR r k, h, t, rfl, h1, bkR_in h2 hk, h3, h4, fun z => by rw [h5 z]; rfl⟩
theorem bkC_eq {c : D} (h : InB c) (k : Int) (x0 x1 x4 x5 x6 x7 x8 x9 x10 x11 x12 x13 : Option Sl) :
    bkE [x0, x1, some (.val c), some (.val (.int k)), x4, x5, x6, x7, x8, x9, x10, x11, x12, x13] = some (bkC k c) := by
  obtain ⟨n, r, h, t, rfl, h1, h2, h3, h4, h5⟩ := h
  exact back_eq h2 k _ _ _ _ _ _ _ _ _ _ _ _
theorem gen_in {i : Int} (h0 : 0 ≤ i) (h1 : i < 9) : 0 - i ∈ gens := by
  have : i = 0 ∨ i = 1 ∨ i = 2 ∨ i = 3 ∨ i = 4 ∨ i = 5 ∨ i = 6 ∨ i = 7 ∨ i = 8 := by omega
  rcases this with rfl | rfl | rfl | rfl | rfl | rfl | rfl | rfl | rfl <;> decide
theorem InB.isf {c : D} (h : InB c) : isF c = true := by
  obtain ⟨n, r, h, t, rfl, _⟩ := h
  rfl
theorem InB.f {c : D} (h : InB c) : c ∈ fcards := by
  obtain ⟨n, r, h, t, rfl, h1, h2, h3, h4, _⟩ := h
  refine in_fcards h1 ?_ h3 h4
  have := bkR_in h2 (k := 0) (by decide)
  unfold rests0 at h2
  simp only [List.mem_cons, List.mem_nil_iff, or_false] at h2
  rcases h2 with rfl | rfl | rfl | rfl <;> exact this
end DD

set_option Elab.async false
set_option linter.all false
set_option maxRecDepth 100000
set_option maxHeartbeats 4000000
namespace DD
open PySem PySem.Spec PyProof.Rows L2
/-! ### a line spoilt -/
theorem cut_all {l : List Nat} {z : Str} (h : PyData.strOk z = true) (s : ∀ c ∈ l, c ∈ z.cps.toList) : PyData.strOk ⟨l.toArray⟩ = true := by
  unfold PyData.strOk at h ⊢
  rw [← Array.all_toList, List.all_eq_true] at h
  rw [List.all_toArray, List.all_eq_true]
  intro c hc
  exact h c (s c hc)
theorem cut_ok {z : Str} (h : PyData.strOk z = true) (lo hi : Option Int) : PyData.strOk (cutS z lo hi) = true := by
  unfold cutS
  exact cut_all h fun c hc => List.mem_of_mem_drop (List.mem_of_mem_take hc)
theorem cut_le (z : Str) (lo hi : Option Int) : (cutS z lo hi).length ≤ z.length := by
  show ((z.cps.toList.drop (HT.sIx z.length 0 lo)).take (HT.sIx z.length z.length hi - HT.sIx z.length 0 lo)).toArray.size ≤ z.length
  rw [List.size_toArray, List.length_take, List.length_drop]
  have : z.cps.toList.length = z.length := Array.length_toList
  omega
theorem slY_s {z : Str} (h : z.length ≤ 1000) (lo hi : Option Int) : dSlY (.str z) lo hi = some (.str (cutS z lo hi)) := by
  show (if z.length ≤ cap then some (PyData.str (cutS z lo hi)) else none) = _
  rw [if_pos (cap_s h)]
theorem add_s {p q : Str} (h : p.length + q.length ≤ 1000) : dAdd (.str p) (.str q) = some (.str (p ++ q)) := by
  show (if p.length + q.length ≤ cap then some (PyData.str (p ++ q)) else none) = _
  rw [if_pos (cap_s h)]
theorem len_s {z : Str} (h : z.length ≤ 1000) : dLen [.str z] = some (.int z.length) := dLen_str (cap_s h)
theorem sign12 {i : Int} (h0 : 0 ≤ i) (h1 : i < 12) : ∃ z, dIx (.str ("a- 01keoldnw" : Str)) (.int i) = some (.str z) ∧ PyData.strOk z = true ∧ z.length ≤ 1 := by
  have : i = 0 ∨ i = 1 ∨ i = 2 ∨ i = 3 ∨ i = 4 ∨ i = 5 ∨ i = 6 ∨ i = 7 ∨ i = 8 ∨ i = 9 ∨ i = 10 ∨ i = 11 := by omega
  rcases this with rfl | rfl | rfl | rfl | rfl | rfl | rfl | rfl | rfl | rfl | rfl | rfl <;> exact ⟨⟨#[_]⟩, rfl, by decide +kernel, by decide +kernel⟩
theorem eq0 (i : Int) : ∃ b, dEq (.int i) (.int 0) = some (.bool b) := ⟨_, dEq_of ((lay_int (i := i)).shaped (by decide)) ((lay_int (i := 0)).shaped (by decide))⟩
theorem in_none (s : Str) : dInX true .none (.tuple [.none, .str s]) = some (.bool false) := rfl
theorem in_self (s : Str) : dInX true (.str s) (.tuple [.none, .str s]) = some (.bool false) := by
  show (if true = true then some (PyData.bool (if true = true then !(PyData.eqv .none (.str s) || (PyData.eqv (.str s) (.str s) || false)) else _)) else none) = _
  rw [if_pos rfl, if_pos rfl, eqv_str, decide_eq_true rfl, Bool.true_or, Bool.or_true]
  rfl
def bs1 : En → Option Fl := (sPar 5 6 (mCall (lim 1 m_card_line) (mCons (mVar 2) mNil)) (mOp dAdd (mC (.int 100)) (mOp dMul (mC (.int 5)) (mVar 4))))
def bs2 : En → Option Fl := (sPar 7 8 (mCall (lim 3 m__law_drawn) (mCons (mVar 0) (mCons (mVar 6) (mCons (mOp dAdd (mCall dLen (mCons (mVar 5) mNil)) (mC (.int 1))) mNil)))) (mOp dIx (mC (.str ("a- 01keoldnw" : Str))) (mCall (lim 3 m__law_drawn) (mCons (mVar 0) (mCons (mOp dAdd (mVar 6) (mC (.int 1))) (mCons (mC (.int 12)) mNil))))))
def bs3 : En → Option Fl := (sAsg (mIfE (mTest (mOp dEq (mCall (lim 3 m__law_drawn) (mCons (mVar 0) (mCons (mOp dAdd (mVar 6) (mC (.int 2))) (mCons (mC (.int 3)) mNil)))) (mC (.int 0)))) (mC (.str ("" : Str))) (mVar 8)) (gSet 9))
def bs4 : En → Option Fl := (sAsg (mOp dAdd (mOp dAdd (mSlY (mVar 5) mNoPart (mPart (mVar 7))) (mVar 9)) (mSlY (mVar 5) (mPart (mOp dAdd (mVar 7) (mCall (lim 3 m__law_drawn) (mCons (mVar 0) (mCons (mOp dAdd (mVar 6) (mC (.int 3))) (mCons (mC (.int 2)) mNil)))))) mNoPart)) (gSet 10))
def bs5 : En → Option Fl := (sIf (mTest (mOp (dInX true) (mCall (lim 1 m__law_again) (mCons (mVar 10) mNil)) (mTup (mCons (mC .none) (mCons (mVar 10) mNil)))))
  (sRet (mC (.bool false)))
  sNext)
def bs6 : En → Option Fl := (sIf (mAnd (mTest (mOp dIsNot (mCall (lim 1 m__law_again) (mCons (mVar 10) mNil)) (mC .none))) (mNot (mTru (mCall (lim 1 m_is_file_card) (mCons (mCall (limX 1 m_card_in) (mCons (mOp dSplit (mVar 10) (mC (.str (" " : Str)))) mNil)) mNil)))))
  (sRet (mC (.bool false)))
  sNext)
def bs_in : En → Option Fl := sSeq bs1 (sSeq bs2 (sSeq bs3 (sSeq bs4 (sSeq bs5 bs6))))
abbrev evS (L C : D) (c : D) (b : Option Sl) (y4 y5 y6 y7 y8 y9 y10 : Option Sl) : En := [some (.val L), some (.val C), some (.val c), b, y4, y5, y6, y7, y8, y9, y10, none, none, none]
theorem bs_step (ns : List Int) (h63 : ns.length ≤ 63) (C c : D) (B : Option Sl) (G : CG c) (k : Int) (hk : 0 ≤ k) (hk2 : k < 6) (y5 y6 y7 y8 y9 y10 : Option Sl) :
    ∃ z5 z6 z7 z8 z9 z10, bs_in (evS (.list (ns.map .int)) C c B (some (.val (.int k))) y5 y6 y7 y8 y9 y10) = some (.nx (evS (.list (ns.map .int)) C c B (some (.val (.int k))) z5 z6 z7 z8 z9 z10)) := by
  have le := G.le
  have hok := G.tk.ok
  have hln := G.line
  generalize lineS c = z at *
  obtain ⟨r1, p1, a1, b1⟩ := drawn_ok ns h63 (100 + 5 * k) (z.length + 1) (by omega) (by omega) (by omega) (by omega)
  obtain ⟨r2, p2, a2, b2⟩ := drawn_ok ns h63 (100 + 5 * k + 1) 12 (by omega) (by omega) (by decide) (by decide)
  obtain ⟨r3, p3, a3, b3⟩ := drawn_ok ns h63 (100 + 5 * k + 2) 3 (by omega) (by omega) (by decide) (by decide)
  obtain ⟨r4, p4, a4, b4⟩ := drawn_ok ns h63 (100 + 5 * k + 3) 2 (by omega) (by omega) (by decide) (by decide)
  generalize PyData.list (ns.map .int) = L at *
  have q := dMul_r (i := 5) (j := k) (by omega) (by omega)
  obtain ⟨sg, g1, g2, g3⟩ := sign12 a2 b2
  have l1 := len_s (z := z) (by omega)
  obtain ⟨b0, e0⟩ := eq0 r3
  have s1 : bs1 (evS L C c B (some (.val (.int k))) y5 y6 y7 y8 y9 y10) = some (.nx (evS L C c B (some (.val (.int k))) (some (.val (.str z))) (some (.val (.int (100 + 5 * k)))) y7 y8 y9 y10)) := by
    simp only [bs1, evS, sSeq, sAsg, sIf, sRet, sNext, sOwn, sFrz, sDrop, sPar, sPar3, sParOV, sParOO, sParOOO, sStop, mOp, mUn, mVar, mC, mTest, mTru, mIfE, mList, mLst, mStar, mCons, mNil, mTup, mCall, mCallL, mAnd, mOr, mNot, mAndV, mOrV, mNotV, mIter, mSl, mSlL, mPart, mNoPart, mIfL, mCatL, mCatV, gSet, gTupM, gConsM, gNilM, isI, frz, wipeM, lim, isB, its, List.map_cons, List.map_nil, List.length_cons, List.length_nil, List.replicate, List.replicate_zero, List.cons_append, List.nil_append, List.getElem?_cons_zero, List.getElem?_cons_succ, List.set_cons_zero, List.set_cons_succ, Option.bind_some, Option.bind_none, Option.map_some, Option.map_none, if_true, if_false, if_pos, Bool.not_true, Bool.not_false, Bool.false_eq_true, reduceCtorEq, hln, q, dAdd_of]
  have s2 : bs2 (evS L C c B (some (.val (.int k))) (some (.val (.str z))) (some (.val (.int (100 + 5 * k)))) y7 y8 y9 y10) = some (.nx (evS L C c B (some (.val (.int k))) (some (.val (.str z))) (some (.val (.int (100 + 5 * k)))) (some (.val (.int r1))) (some (.val (.str sg))) y9 y10)) := by
    simp only [bs2, evS, sSeq, sAsg, sIf, sRet, sNext, sOwn, sFrz, sDrop, sPar, sPar3, sParOV, sParOO, sParOOO, sStop, mOp, mUn, mVar, mC, mTest, mTru, mIfE, mList, mLst, mStar, mCons, mNil, mTup, mCall, mCallL, mAnd, mOr, mNot, mAndV, mOrV, mNotV, mIter, mSl, mSlL, mPart, mNoPart, mIfL, mCatL, mCatV, gSet, gTupM, gConsM, gNilM, isI, frz, wipeM, lim, isB, its, List.map_cons, List.map_nil, List.length_cons, List.length_nil, List.replicate, List.replicate_zero, List.cons_append, List.nil_append, List.getElem?_cons_zero, List.getElem?_cons_succ, List.set_cons_zero, List.set_cons_succ, Option.bind_some, Option.bind_none, Option.map_some, Option.map_none, if_true, if_false, if_pos, Bool.not_true, Bool.not_false, Bool.false_eq_true, reduceCtorEq, l1, dAdd_of, p1, p2, g1]
  obtain ⟨pt, k1, k2, s3⟩ : ∃ pt : Str, PyData.strOk pt = true ∧ pt.length ≤ 1 ∧ bs3 (evS L C c B (some (.val (.int k))) (some (.val (.str z))) (some (.val (.int (100 + 5 * k)))) (some (.val (.int r1))) (some (.val (.str sg))) y9 y10) =
      some (.nx (evS L C c B (some (.val (.int k))) (some (.val (.str z))) (some (.val (.int (100 + 5 * k)))) (some (.val (.int r1))) (some (.val (.str sg))) (some (.val (.str pt))) y10)) := by
    cases b0 with
    | true =>
      refine ⟨"", by decide +kernel, by decide +kernel, ?_⟩
      simp only [bs3, evS, sSeq, sAsg, sIf, sRet, sNext, sOwn, sFrz, sDrop, sPar, sPar3, sParOV, sParOO, sParOOO, sStop, mOp, mUn, mVar, mC, mTest, mTru, mIfE, mList, mLst, mStar, mCons, mNil, mTup, mCall, mCallL, mAnd, mOr, mNot, mAndV, mOrV, mNotV, mIter, mSl, mSlL, mPart, mNoPart, mIfL, mCatL, mCatV, gSet, gTupM, gConsM, gNilM, isI, frz, wipeM, lim, isB, its, List.map_cons, List.map_nil, List.length_cons, List.length_nil, List.replicate, List.replicate_zero, List.cons_append, List.nil_append, List.getElem?_cons_zero, List.getElem?_cons_succ, List.set_cons_zero, List.set_cons_succ, Option.bind_some, Option.bind_none, Option.map_some, Option.map_none, if_true, if_false, if_pos, Bool.not_true, Bool.not_false, Bool.false_eq_true, reduceCtorEq, dAdd_of, p3, e0]
    | false =>
      refine ⟨sg, g2, g3, ?_⟩
      simp only [bs3, evS, sSeq, sAsg, sIf, sRet, sNext, sOwn, sFrz, sDrop, sPar, sPar3, sParOV, sParOO, sParOOO, sStop, mOp, mUn, mVar, mC, mTest, mTru, mIfE, mList, mLst, mStar, mCons, mNil, mTup, mCall, mCallL, mAnd, mOr, mNot, mAndV, mOrV, mNotV, mIter, mSl, mSlL, mPart, mNoPart, mIfL, mCatL, mCatV, gSet, gTupM, gConsM, gNilM, isI, frz, wipeM, lim, isB, its, List.map_cons, List.map_nil, List.length_cons, List.length_nil, List.replicate, List.replicate_zero, List.cons_append, List.nil_append, List.getElem?_cons_zero, List.getElem?_cons_succ, List.set_cons_zero, List.set_cons_succ, Option.bind_some, Option.bind_none, Option.map_some, Option.map_none, if_true, if_false, if_pos, Bool.not_true, Bool.not_false, Bool.false_eq_true, reduceCtorEq, dAdd_of, p3, e0]
  have c1 := slY_s (z := z) (by omega) none (some r1)
  have c2 := slY_s (z := z) (by omega) (some (r1 + r4)) none
  have c3 := cut_le z none (some r1)
  have c4 := cut_le z (some (r1 + r4)) none
  have c5 := cut_ok hok none (some r1)
  have c6 := cut_ok hok (some (r1 + r4)) none
  generalize cutS z none (some r1) = w1 at *
  generalize cutS z (some (r1 + r4)) none = w2 at *
  have d1 := add_s (p := w1) (q := pt) (by omega)
  have d2 : dAdd (.str (w1 ++ pt)) (.str w2) = some (.str (w1 ++ pt ++ w2)) := add_s (by rw [Str.length_append]; omega)
  have tk : Tk (w1 ++ pt ++ w2) := ⟨by rw [strOk_app, strOk_app, c5, c6, k1]; rfl, by rw [Str.length_append, Str.length_append]; omega⟩
  have s4 : bs4 (evS L C c B (some (.val (.int k))) (some (.val (.str z))) (some (.val (.int (100 + 5 * k)))) (some (.val (.int r1))) (some (.val (.str sg))) (some (.val (.str pt))) y10) =
      some (.nx (evS L C c B (some (.val (.int k))) (some (.val (.str z))) (some (.val (.int (100 + 5 * k)))) (some (.val (.int r1))) (some (.val (.str sg))) (some (.val (.str pt))) (some (.val (.str (w1 ++ pt ++ w2)))))) := by
    simp only [bs4, evS, mSlY, sSeq, sAsg, sIf, sRet, sNext, sOwn, sFrz, sDrop, sPar, sPar3, sParOV, sParOO, sParOOO, sStop, mOp, mUn, mVar, mC, mTest, mTru, mIfE, mList, mLst, mStar, mCons, mNil, mTup, mCall, mCallL, mAnd, mOr, mNot, mAndV, mOrV, mNotV, mIter, mSl, mSlL, mPart, mNoPart, mIfL, mCatL, mCatV, gSet, gTupM, gConsM, gNilM, isI, frz, wipeM, lim, isB, its, List.map_cons, List.map_nil, List.length_cons, List.length_nil, List.replicate, List.replicate_zero, List.cons_append, List.nil_append, List.getElem?_cons_zero, List.getElem?_cons_succ, List.set_cons_zero, List.set_cons_succ, Option.bind_some, Option.bind_none, Option.map_some, Option.map_none, if_true, if_false, if_pos, Bool.not_true, Bool.not_false, Bool.false_eq_true, reduceCtorEq, dAdd_of, p4, c1, c2, d1, d2]
  generalize w1 ++ pt ++ w2 = sp at *
  have hsp := split_of tk
  have s56 : sSeq bs5 bs6 (evS L C c B (some (.val (.int k))) (some (.val (.str z))) (some (.val (.int (100 + 5 * k)))) (some (.val (.int r1))) (some (.val (.str sg))) (some (.val (.str pt))) (some (.val (.str sp)))) =
      some (.nx (evS L C c B (some (.val (.int k))) (some (.val (.str z))) (some (.val (.int (100 + 5 * k)))) (some (.val (.int r1))) (some (.val (.str sg))) (some (.val (.str pt))) (some (.val (.str sp))))) := by
    rcases again_b tk with e | ⟨e, d, f1, f2⟩
    · have i1 := in_none sp
      simp only [bs5, bs6, evS, sSeq, sAsg, sIf, sRet, sNext, sOwn, sFrz, sDrop, sPar, sPar3, sParOV, sParOO, sParOOO, sStop, mOp, mUn, mVar, mC, mTest, mTru, mIfE, mList, mLst, mStar, mCons, mNil, mTup, mCall, mCallL, mAnd, mOr, mNot, mAndV, mOrV, mNotV, mIter, mSl, mSlL, mPart, mNoPart, mIfL, mCatL, mCatV, gSet, gTupM, gConsM, gNilM, isI, frz, wipeM, lim, isB, its, List.map_cons, List.map_nil, List.length_cons, List.length_nil, List.replicate, List.replicate_zero, List.cons_append, List.nil_append, List.getElem?_cons_zero, List.getElem?_cons_succ, List.set_cons_zero, List.set_cons_succ, Option.bind_some, Option.bind_none, Option.map_some, Option.map_none, if_true, if_false, if_pos, Bool.not_true, Bool.not_false, Bool.false_eq_true, reduceCtorEq, e, sz2, i1, isn_n]
    · have i1 := in_self sp
      have i2 := isn_s sp
      have f3 : limX 1 m_card_in [wsD sp] = some d := by
        show (m_card_in [wsD sp]).bind okR = _
        rw [f1]
        rfl
      simp only [bs5, bs6, evS, sSeq, sAsg, sIf, sRet, sNext, sOwn, sFrz, sDrop, sPar, sPar3, sParOV, sParOO, sParOOO, sStop, mOp, mUn, mVar, mC, mTest, mTru, mIfE, mList, mLst, mStar, mCons, mNil, mTup, mCall, mCallL, mAnd, mOr, mNot, mAndV, mOrV, mNotV, mIter, mSl, mSlL, mPart, mNoPart, mIfL, mCatL, mCatV, gSet, gTupM, gConsM, gNilM, isI, frz, wipeM, lim, isB, its, List.map_cons, List.map_nil, List.length_cons, List.length_nil, List.replicate, List.replicate_zero, List.cons_append, List.nil_append, List.getElem?_cons_zero, List.getElem?_cons_succ, List.set_cons_zero, List.set_cons_succ, Option.bind_some, Option.bind_none, Option.map_some, Option.map_none, if_true, if_false, if_pos, Bool.not_true, Bool.not_false, Bool.false_eq_true, reduceCtorEq, e, sz2, i1, i2, hsp, f3, f2, tru_b]
  exact ⟨_, _, _, _, _, _, (seq_nx s1).trans ((seq_nx s2).trans ((seq_nx s3).trans ((seq_nx s4).trans s56)))⟩
theorem ls_in (ns : List Int) (h63 : ns.length ≤ 63) (C c : D) (B : Option Sl) (G : CG c) : ∀ (is : List D), (∀ d ∈ is, ∃ k : Int, d = .int k ∧ 0 ≤ k ∧ k < 6) → ∀ (y4 y5 y6 y7 y8 y9 y10 : Option Sl),
    ∃ z4 z5 z6 z7 z8 z9 z10, loop (gSet 4) bs_in is (evS (.list (ns.map .int)) C c B y4 y5 y6 y7 y8 y9 y10) = some (.nx (evS (.list (ns.map .int)) C c B z4 z5 z6 z7 z8 z9 z10))
  | [], _, y4, y5, y6, y7, y8, y9, y10 => ⟨y4, y5, y6, y7, y8, y9, y10, rfl⟩
  | d :: is, h, y4, y5, y6, y7, y8, y9, y10 => by
    obtain ⟨k, rfl, k1, k2⟩ := h d List.mem_cons_self
    obtain ⟨u5, u6, u7, u8, u9, u10, hb⟩ := bs_step ns h63 C c B G k k1 k2 y5 y6 y7 y8 y9 y10
    obtain ⟨z4, z5, z6, z7, z8, z9, z10, e⟩ := ls_in ns h63 C c B G is (fun x hx => h x (List.mem_cons_of_mem _ hx)) (some (.val (.int k))) u5 u6 u7 u8 u9 u10
    exact ⟨z4, z5, z6, z7, z8, z9, z10, (loop_cons rfl hb).trans e⟩
end DD

set_option Elab.async false
set_option linter.all false
set_option maxRecDepth 100000
set_option maxHeartbeats 4000000
namespace DD
open PySem PySem.Spec PyProof.Rows L2
/-! ### the cards one behind the other -/
def bo1 : En → Option Fl := (sIf (mOr (mNot (mTru (mCall (lim 1 m_is_file_card) (mCons (mVar 2) mNil)))) (mTest (mOp dNe (mCall (lim 1 m__law_again) (mCons (mCall (lim 1 m_card_line) (mCons (mVar 2) mNil)) mNil)) (mCall (lim 1 m_card_line) (mCons (mVar 2) mNil)))))
  (sRet (mC (.bool false)))
  sNext)
def bo2 : En → Option Fl := (sIf (mTest (mOp dNe (mCall (limX 1 m_card_in) (mCons (mOp dSplit (mCall (lim 1 m_card_line) (mCons (mVar 2) mNil)) (mC (.str (" " : Str)))) mNil)) (mVar 2)))
  (sRet (mC (.bool false)))
  sNext)
def bo3 : En → Option Fl := (sIf (mTest (mOp dNe (mList (mLc (mIter (mVar 1)) (gSet 13) (mTest (mOp dNe (mOp dEq (mCall (lim 1 m_card_line) (mCons (mVar 13) mNil)) (mCall (lim 1 m_card_line) (mCons (mVar 2) mNil))) (mOp dEq (mVar 13) (mVar 2)))) (mVar 13) [13])) (mList (mLst mNil))))
  (sRet (mC (.bool false)))
  sNext)
def bo4 : En → Option Fl := (sFor (mRange1 (mCons (mC (.int 6)) mNil)) (gSet 4) bs_in)
def bo : En → Option Fl := sSeq bo1 (sSeq bo2 (sSeq bo3 bo4))
theorem ne_bb (b : Bool) : dNe (.bool b) (.bool b) = some (.bool false) := dNe_self (lay_bool (b := b)) (by decide)
theorem ne_ll : dNe (.list []) (.list []) = some (.bool false) := dNe_self (lay_list (k := 0) fun d hd => nomatch hd) (by decide)
theorem upto_6 : ∀ d ∈ upto 0 6, ∃ k : Int, d = .int k ∧ 0 ≤ k ∧ k < 6 := fun d hd => by
  obtain ⟨k, e, k1, k2⟩ := upto_mem hd
  exact ⟨k, e, k1, k2⟩
theorem bo_step (ns : List Int) (h63 : ns.length ≤ 63) (C : List D) (hC : ∀ c ∈ C, InG c) (hl : C.length ≤ 10) (c : D) (g : InG c) (B : Option Sl) (y4 y5 y6 y7 y8 y9 y10 : Option Sl) :
    ∃ z4 z5 z6 z7 z8 z9 z10, bo (evS (.list (ns.map .int)) (.list C) c B y4 y5 y6 y7 y8 y9 y10) = some (.nx (evS (.list (ns.map .int)) (.list C) c B z4 z5 z6 z7 z8 z9 z10)) := by
  have G := g.cg
  obtain ⟨z4, z5, z6, z7, z8, z9, z10, hlp⟩ := ls_in ns h63 (.list C) c B G (upto 0 6) upto_6 y4 y5 y6 y7 y8 y9 y10
  generalize PyData.list (ns.map .int) = L at *
  have t1 := G.card
  have t2 := G.line
  have t3 := G.again
  have t4 : dNe (.str (lineS c)) (.str (lineS c)) = some (.bool false) := dNe_self (lay_str G.tk.ok) (by decide)
  have t5 := split_of G.tk
  have t6 : limX 1 m_card_in [wsD (lineS c)] = some c := G.back
  have t7 : dNe c c = some (.bool false) := dNe_self G.lay (by decide)
  have s1 : bo1 (evS L (.list C) c B y4 y5 y6 y7 y8 y9 y10) = some (.nx (evS L (.list C) c B y4 y5 y6 y7 y8 y9 y10)) := by
    simp only [bo1, evS, sSeq, sAsg, sIf, sRet, sNext, sOwn, sFrz, sDrop, sPar, sPar3, sParOV, sParOO, sParOOO, sStop, mOp, mUn, mVar, mC, mTest, mTru, mIfE, mList, mLst, mStar, mCons, mNil, mTup, mCall, mCallL, mAnd, mOr, mNot, mAndV, mOrV, mNotV, mIter, mSl, mSlL, mPart, mNoPart, mIfL, mCatL, mCatV, gSet, gTupM, gConsM, gNilM, isI, frz, wipeM, lim, isB, its, List.map_cons, List.map_nil, List.length_cons, List.length_nil, List.replicate, List.replicate_zero, List.cons_append, List.nil_append, List.getElem?_cons_zero, List.getElem?_cons_succ, List.set_cons_zero, List.set_cons_succ, Option.bind_some, Option.bind_none, Option.map_some, Option.map_none, if_true, if_false, if_pos, Bool.not_true, Bool.not_false, Bool.false_eq_true, reduceCtorEq, tru_b, t1, t2, t3, t4]
  have s2 : bo2 (evS L (.list C) c B y4 y5 y6 y7 y8 y9 y10) = some (.nx (evS L (.list C) c B y4 y5 y6 y7 y8 y9 y10)) := by
    simp only [bo2, evS, sSeq, sAsg, sIf, sRet, sNext, sOwn, sFrz, sDrop, sPar, sPar3, sParOV, sParOO, sParOOO, sStop, mOp, mUn, mVar, mC, mTest, mTru, mIfE, mList, mLst, mStar, mCons, mNil, mTup, mCall, mCallL, mAnd, mOr, mNot, mAndV, mOrV, mNotV, mIter, mSl, mSlL, mPart, mNoPart, mIfL, mCatL, mCatV, gSet, gTupM, gConsM, gNilM, isI, frz, wipeM, lim, isB, its, List.map_cons, List.map_nil, List.length_cons, List.length_nil, List.replicate, List.replicate_zero, List.cons_append, List.nil_append, List.getElem?_cons_zero, List.getElem?_cons_succ, List.set_cons_zero, List.set_cons_succ, Option.bind_some, Option.bind_none, Option.map_some, Option.map_none, if_true, if_false, if_pos, Bool.not_true, Bool.not_false, Bool.false_eq_true, reduceCtorEq, t2, t5, t6, t7]
  have hlc : mLc (mIter (mVar 1)) (gSet 13) (mTest (mOp dNe (mOp dEq (mCall (lim 1 m_card_line) (mCons (mVar 13) mNil)) (mCall (lim 1 m_card_line) (mCons (mVar 2) mNil))) (mOp dEq (mVar 13) (mVar 2)))) (mVar 13) [13] (evS L (.list C) c B y4 y5 y6 y7 y8 y9 y10) = some ((C.filter fun _ => false).map fun d => d) := by
    refine lc_if rfl (Nat.le_trans hl (by decide)) fun d hd => ⟨_, rfl, ?_, fun z => nomatch z⟩
    have K := (hC d hd).cg
    have u1 := K.line
    have u2 : dEq (.str (lineS d)) (.str (lineS c)) = some (.bool (decide (lineS d = lineS c))) := dEq_str K.tk.ok G.tk.ok
    have u3 : dEq d c = some (.bool (decide (lineS d = lineS c))) := by
      rw [dEq_of (K.lay.shaped (by decide)) (G.lay.shaped (by decide)), line_same (hC d hd) g]
    have u4 := ne_bb (decide (lineS d = lineS c))
    simp only [evS, sSeq, sAsg, sIf, sRet, sNext, sOwn, sFrz, sDrop, sPar, sPar3, sParOV, sParOO, sParOOO, sStop, mOp, mUn, mVar, mC, mTest, mTru, mIfE, mList, mLst, mStar, mCons, mNil, mTup, mCall, mCallL, mAnd, mOr, mNot, mAndV, mOrV, mNotV, mIter, mSl, mSlL, mPart, mNoPart, mIfL, mCatL, mCatV, gSet, gTupM, gConsM, gNilM, isI, frz, wipeM, lim, isB, its, List.map_cons, List.map_nil, List.length_cons, List.length_nil, List.replicate, List.replicate_zero, List.cons_append, List.nil_append, List.getElem?_cons_zero, List.getElem?_cons_succ, List.set_cons_zero, List.set_cons_succ, Option.bind_some, Option.bind_none, Option.map_some, Option.map_none, if_true, if_false, if_pos, Bool.not_true, Bool.not_false, Bool.false_eq_true, reduceCtorEq, u1, t2, u2, u3, u4]
  have hf : ((C.filter fun _ => false).map fun d => d) = [] := by simp
  rw [hf] at hlc
  have s3 : bo3 (evS L (.list C) c B y4 y5 y6 y7 y8 y9 y10) = some (.nx (evS L (.list C) c B y4 y5 y6 y7 y8 y9 y10)) := by
    unfold bo3
    refine (if_f ?_).trans rfl
    have e1 : mOp dNe (mList (mLc (mIter (mVar 1)) (gSet 13) (mTest (mOp dNe (mOp dEq (mCall (lim 1 m_card_line) (mCons (mVar 13) mNil)) (mCall (lim 1 m_card_line) (mCons (mVar 2) mNil))) (mOp dEq (mVar 13) (mVar 2)))) (mVar 13) [13])) (mList (mLst mNil)) (evS L (.list C) c B y4 y5 y6 y7 y8 y9 y10) = some (.bool false) := by
      rw [op_of (list_of hlc) (show mList (mLst mNil) _ = some (.list []) from rfl)]
      exact ne_ll
    exact test_of e1
  have s4 : bo4 (evS L (.list C) c B y4 y5 y6 y7 y8 y9 y10) = some (.nx (evS L (.list C) c B z4 z5 z6 z7 z8 z9 z10)) := by
    unfold bo4
    show (mRange1 _ _).bind _ = _
    rw [range_of (n := 6) (show mC (.int 6) _ = some (.int (6 : Nat)) from rfl) (by decide)]
    exact hlp
  exact ⟨z4, z5, z6, z7, z8, z9, z10, (seq_nx s1).trans ((seq_nx s2).trans ((seq_nx s3).trans s4))⟩
abbrev evT (L C : D) (x2 b : Option Sl) (y4 y5 y6 y7 y8 y9 y10 : Option Sl) : En := [some (.val L), some (.val C), x2, b, y4, y5, y6, y7, y8, y9, y10, none, none, none]
theorem lo (ns : List Int) (h63 : ns.length ≤ 63) (C : List D) (hC : ∀ c ∈ C, InG c) (hl : C.length ≤ 10) (B : Option Sl) : ∀ (cs : List D), (∀ c ∈ cs, InG c) → ∀ (x2 y4 y5 y6 y7 y8 y9 y10 : Option Sl),
    ∃ z2 z4 z5 z6 z7 z8 z9 z10, loop (gSet 2) bo cs (evT (.list (ns.map .int)) (.list C) x2 B y4 y5 y6 y7 y8 y9 y10) = some (.nx (evT (.list (ns.map .int)) (.list C) z2 B z4 z5 z6 z7 z8 z9 z10))
  | [], _, x2, y4, y5, y6, y7, y8, y9, y10 => ⟨x2, y4, y5, y6, y7, y8, y9, y10, rfl⟩
  | c :: cs, h, x2, y4, y5, y6, y7, y8, y9, y10 => by
    obtain ⟨u4, u5, u6, u7, u8, u9, u10, hb⟩ := bo_step ns h63 C hC hl c (h c List.mem_cons_self) B y4 y5 y6 y7 y8 y9 y10
    obtain ⟨z2, z4, z5, z6, z7, z8, z9, z10, e⟩ := lo ns h63 C hC hl B cs (fun x hx => h x (List.mem_cons_of_mem _ hx)) (some (.val c)) u4 u5 u6 u7 u8 u9 u10
    exact ⟨z2, z4, z5, z6, z7, z8, z9, z10, (loop_cons rfl hb).trans e⟩
/-! ### the end -/
def be1 : En → Option Fl := (sAsg (mList (mSortTx (mList (mLc (mIter (mVar 1)) (gSet 2) mYes (mOp dIx (mOp dIx (mVar 2) (mC (.int 0))) (mC (.int 0))) [2])))) (gSet 11))
def be2 : En → Option Fl := (sAsg (mCall (lim 1 m_needs_of) (mCons (mTup (mCons (mTup (mCons (mC (.str ("one" : Str))) (mCons (mTup (mCons (mTup (mCons (mC (.str ("end" : Str))) (mCons (mC (.int 0)) mNil))) mNil)) (mCons (mTup mNil) (mCons (mC .none) (mCons (mCall dTupOf (mCons (mSlY (mVar 1) mNoPart (mPart (mC (.int 6)))) mNil)) mNil)))))) mNil)) mNil)) (gSet 12))
def be3 : En → Option Fl := (sRet (mOrV (mOp dGt (mCall dLen (mCons (mVar 1) mNil)) (mC (.int 6))) (mOp dEq (mList (mCallL dSortT (mCons (mOp dAdd (mOp dIx (mVar 12) (mC (.int 0))) (mOp dIx (mVar 12) (mC (.int 1)))) mNil))) (mVar 11))))
theorem sz5 (a b c d e : D) : sized [a, b, c, d, e] = some [a, b, c, d, e] := rfl
theorem cut_take {ds : List D} : cutD ds none (some 6) = ds.take 6 := by
  unfold cutD
  show (ds.drop 0).take (HT.sIx ds.length ds.length (some 6) - 0) = _
  rw [show HT.sIx ds.length ds.length (some 6) = min 6 ds.length from HT.sIx_nat _ _ 6, List.drop_zero, Nat.sub_zero]
  by_cases h : ds.length ≤ 6
  · rw [Nat.min_eq_right h, List.take_of_length_le (Nat.le_refl _), List.take_of_length_le h]
  · rw [Nat.min_eq_left (by omega)]
theorem end_true (L : D) (C : List D) (hC : ∀ c ∈ C, InG c) (hl : C.length ≤ 10) (x2 B y4 y5 y6 y7 y8 y9 y10 : Option Sl) :
    sSeq be1 (sSeq be2 be3) (evT L (.list C) x2 B y4 y5 y6 y7 y8 y9 y10) = some (.rt (.bool true)) := by
  have hI : ∀ c ∈ C, InC c := fun c hc => .inr (hC c hc).f
  have hT : ∀ c ∈ C.take 6, InC c := fun c hc => hI c (List.mem_of_mem_take hc)
  have hF : ∀ c ∈ C, isF c = true := fun c hc => by
    obtain ⟨n, r, h, t, rfl, _⟩ := hC c hc
    rfl
  have lt : (C.take 6).length ≤ 6 := by rw [List.length_take]; omega
  let S : Stp := ⟨.str "one", false, C.take 6⟩
  have oS : OkS [S] := fun s hs => by
    cases List.mem_singleton.mp hs
    exact hT
  have tS' : tot [S] ≤ 60 := by
    show (C.take 6).length + 1 + 0 ≤ 60
    omega
  have n1 : m_needs_of [.tuple [stD S]] = some (needsD (nds [S])) := needs_eq [S] oS tS' (show 1 ≤ 100 by decide)
  have hlc : mLc (mIter (mVar 1)) (gSet 2) mYes (mOp dIx (mOp dIx (mVar 2) (mC (.int 0))) (mC (.int 0))) [2] (evT L (.list C) x2 B y4 y5 y6 y7 y8 y9 y10) = some (C.map fun c => .str (nmOf c)) := by
    refine lc_of rfl (Nat.le_trans hl (by decide)) fun c hc => ⟨_, rfl, ?_⟩
    have F := cf c (hC c hc).f
    have f1 := F.ref
    have f2 := F.nm
    simp only [evT, sSeq, sAsg, sIf, sRet, sNext, sOwn, sFrz, sDrop, sPar, sPar3, sParOV, sParOO, sParOOO, sStop, mOp, mUn, mVar, mC, mTest, mTru, mIfE, mList, mLst, mStar, mCons, mNil, mTup, mCall, mCallL, mAnd, mOr, mNot, mAndV, mOrV, mNotV, mIter, mSl, mSlL, mPart, mNoPart, mIfL, mCatL, mCatV, gSet, gTupM, gConsM, gNilM, isI, frz, wipeM, lim, isB, its, List.map_cons, List.map_nil, List.length_cons, List.length_nil, List.replicate, List.replicate_zero, List.cons_append, List.nil_append, List.getElem?_cons_zero, List.getElem?_cons_succ, List.set_cons_zero, List.set_cons_succ, Option.bind_some, Option.bind_none, Option.map_some, Option.map_none, if_true, if_false, if_pos, Bool.not_true, Bool.not_false, Bool.false_eq_true, reduceCtorEq, f1, f2]
  have hm : (C.map fun c => PyData.str (nmOf c)) = (C.map nmOf).map .str := by rw [List.map_map]; rfl
  rw [hm] at hlc
  have s1 : be1 (evT L (.list C) x2 B y4 y5 y6 y7 y8 y9 y10) = some (.nx [some (.val L), some (.val (.list C)), x2, B, y4, y5, y6, y7, y8, y9, y10, some (.val (.list ((ssetS (C.map nmOf)).map .str))), none, none]) := by
    have q := sortTx_of (list_of hlc) (by rw [List.length_map]; omega)
    have q2 := list_of q
    unfold be1
    show (mList _ _).bind _ = _
    rw [q2]
    rfl
  generalize hN : PyData.list ((ssetS (C.map nmOf)).map .str) = N at *
  have c6 : dSlY (.list C) none (some 6) = some (.list (C.take 6)) := by
    show some (PyData.list (cutD C none (some 6))) = _
    rw [cut_take]
  have ct : dTupOf [.list (C.take 6)] = some (.tuple (C.take 6)) := rfl
  have st : stD S = .tuple [.str "one", .tuple [.tuple [.str "end", .int 0]], .tuple [], .none, .tuple (C.take 6)] := rfl
  rw [st] at n1
  have s2 : be2 [some (.val L), some (.val (.list C)), x2, B, y4, y5, y6, y7, y8, y9, y10, some (.val N), none, none] = some (.nx [some (.val L), some (.val (.list C)), x2, B, y4, y5, y6, y7, y8, y9, y10, some (.val N), some (.val (needsD (nds [S]))), none]) := by
    simp only [be2, mSlY, sSeq, sAsg, sIf, sRet, sNext, sOwn, sFrz, sDrop, sPar, sPar3, sParOV, sParOO, sParOOO, sStop, mOp, mUn, mVar, mC, mTest, mTru, mIfE, mList, mLst, mStar, mCons, mNil, mTup, mCall, mCallL, mAnd, mOr, mNot, mAndV, mOrV, mNotV, mIter, mSl, mSlL, mPart, mNoPart, mIfL, mCatL, mCatV, gSet, gTupM, gConsM, gNilM, isI, frz, wipeM, lim, isB, its, List.map_cons, List.map_nil, List.length_cons, List.length_nil, List.replicate, List.replicate_zero, List.cons_append, List.nil_append, List.getElem?_cons_zero, List.getElem?_cons_succ, List.set_cons_zero, List.set_cons_succ, Option.bind_some, Option.bind_none, Option.map_some, Option.map_none, if_true, if_false, if_pos, Bool.not_true, Bool.not_false, Bool.false_eq_true, reduceCtorEq, c6, ct, sz0, sz1, sz2, sz5, n1]
  have l1 : dLen [.list C] = some (.int C.length) := dLen_list (Nat.le_trans hl (by decide))
  have g1 : dGt (.int C.length) (.int 6) = some (.bool (decide ((6 : Int) < C.length))) := rfl
  have s3 : be3 [some (.val L), some (.val (.list C)), x2, B, y4, y5, y6, y7, y8, y9, y10, some (.val N), some (.val (needsD (nds [S]))), none] = some (.rt (.bool true)) := by
    cases hq : decide ((6 : Int) < C.length) with
    | true =>
      rw [hq] at g1
      simp only [be3, sSeq, sAsg, sIf, sRet, sNext, sOwn, sFrz, sDrop, sPar, sPar3, sParOV, sParOO, sParOOO, sStop, mOp, mUn, mVar, mC, mTest, mTru, mIfE, mList, mLst, mStar, mCons, mNil, mTup, mCall, mCallL, mAnd, mOr, mNot, mAndV, mOrV, mNotV, mIter, mSl, mSlL, mPart, mNoPart, mIfL, mCatL, mCatV, gSet, gTupM, gConsM, gNilM, isI, frz, wipeM, lim, isB, its, List.map_cons, List.map_nil, List.length_cons, List.length_nil, List.replicate, List.replicate_zero, List.cons_append, List.nil_append, List.getElem?_cons_zero, List.getElem?_cons_succ, List.set_cons_zero, List.set_cons_succ, Option.bind_some, Option.bind_none, Option.map_some, Option.map_none, if_true, if_false, if_pos, Bool.not_true, Bool.not_false, Bool.false_eq_true, reduceCtorEq, l1, g1, tru_b]
    | false =>
      rw [hq] at g1
      have h6 : C.length ≤ 6 := by have := of_decide_eq_false hq; omega
      obtain ⟨W, _⟩ := w3_ok oS tS'
      have i0 : dIx (needsD (nds [S])) (.int 0) = some (tS (w3 [S]).a) := rfl
      have i1 : dIx (needsD (nds [S])) (.int 1) = some (tS (w3 [S]).s) := rfl
      have ad := add_tS (w3 [S]).a (w3 [S]).s W.a W.s
      have so : dSortT [tS ((w3 [S]).a ++ (w3 [S]).s)] = some ((sortS ((w3 [S]).a ++ (w3 [S]).s)).map .str) := by
        refine sortT_t ?_
        have e1 := (sortS_perm ((w3 [S]).a ++ (w3 [S]).s)).length_eq
        rw [names_row] at e1
        have e2 := sset_lenS (allN [S])
        have e3 := allN_len [S]
        omega
      have an : allN [S] = C.map nmOf := by
        show (((C.take 6).filter isF).map nmOf) ++ [] ++ [] = _
        rw [List.take_of_length_le h6, List.filter_eq_self.mpr hF, List.append_nil, List.append_nil]
      rw [names_row, an] at so
      have ly : ∀ x ∈ ssetS (C.map nmOf), PyData.strOk x = true := fun x hx => by
        rw [← an] at hx
        exact allN_ok oS x (sset_memS.mp hx)
      have eq : dEq (.list ((ssetS (C.map nmOf)).map .str)) N = some (.bool true) := by
        rw [← hN, dEq_of ((lay_strs_l ly).shaped (by decide)) ((lay_strs_l ly).shaped (by decide)), SeqAt.eqv_refl _ (lay_strs_l ly).1]
      simp only [be3, sSeq, sAsg, sIf, sRet, sNext, sOwn, sFrz, sDrop, sPar, sPar3, sParOV, sParOO, sParOOO, sStop, mOp, mUn, mVar, mC, mTest, mTru, mIfE, mList, mLst, mStar, mCons, mNil, mTup, mCall, mCallL, mAnd, mOr, mNot, mAndV, mOrV, mNotV, mIter, mSl, mSlL, mPart, mNoPart, mIfL, mCatL, mCatV, gSet, gTupM, gConsM, gNilM, isI, frz, wipeM, lim, isB, its, List.map_cons, List.map_nil, List.length_cons, List.length_nil, List.replicate, List.replicate_zero, List.cons_append, List.nil_append, List.getElem?_cons_zero, List.getElem?_cons_succ, List.set_cons_zero, List.set_cons_succ, Option.bind_some, Option.bind_none, Option.map_some, Option.map_none, if_true, if_false, if_pos, Bool.not_true, Bool.not_false, Bool.false_eq_true, reduceCtorEq, l1, g1, tru_b, i0, i1, ad, so, eq]
  exact (seq_nx s1).trans ((seq_nx s2).trans s3)
end DD

set_option Elab.async false
set_option linter.all false
set_option maxRecDepth 100000
set_option maxHeartbeats 4000000
namespace DD
open PySem PySem.Spec PyProof.Rows L2
def bl1 : En → Option Fl := (sAsg (mOp dAdd (mCall (lim 3 m__law_cards) (mCons (mVar 0) (mCons (mC (.int 0)) (mCons (mList (mLst (mCons (mC (.str ("a" : Str))) (mCons (mC (.str ("bb" : Str))) (mCons (mC (.str ("lib" : Str))) mNil))))) mNil)))) (mCall (lim 3 m__law_cards) (mCons (mVar 0) (mCons (mC (.int 40)) (mCons (mList (mLst (mCons (mC (.str ("a" : Str))) (mCons (mC (.str ("q" : Str))) mNil)))) mNil))))) (gSet 1))
def bl2 : En → Option Fl := (sAsg (mList (mLc (mIter (mVar 1)) (gSet 2) (mTest (mOp dEq (mCall dLen (mCons (mVar 2) mNil)) (mC (.int 3)))) (mVar 2) [2])) (gSet 1))
def bl3 : En → Option Fl := (sAsg (mOp dSub (mC (.int 0)) (mCall (lim 3 m__law_drawn) (mCons (mVar 0) (mCons (mC (.int 99)) (mCons (mC (.int 9)) mNil))))) (gSet 3))
def bl4 : En → Option Fl := (sAsg (mList (mLc (mIter (mVar 1)) (gSet 2) mYes bkE [2])) (gSet 1))
def bl5 : En → Option Fl := (sFor (mIter (mVar 1)) (gSet 2) bo)
theorem law_form : b_law = sSeq bl1 (sSeq bl2 (sSeq bl3 (sSeq bl4 (sSeq bl5 (sSeq be1 (sSeq be2 be3)))))) := rfl
theorem law_true (ns : List Int) (h63 : ns.length ≤ 63) : m_law [.list (ns.map .int)] = some (.bool true) := by
  obtain ⟨cs1, u1, u2, u3⟩ := cards_ok ns h63 0 nmsA (by decide) (by decide)
  obtain ⟨cs2, v1, v2, v3⟩ := cards_ok ns h63 40 nmsB (by decide) (by decide)
  obtain ⟨r, p, a, b⟩ := drawn_ok ns h63 99 9 (by decide) (by decide) (by decide) (by decide)
  have ll := lo ns h63
  generalize PyData.list (ns.map .int) = L at *
  have hcs : ∀ c ∈ cs1 ++ cs2, c = dcard ∨ InB c := fun c hc => (List.mem_append.mp hc).elim (u2 c) (v2 c)
  have lcs : (cs1 ++ cs2).length ≤ 8 := by rw [List.length_append]; omega
  have ad : dAdd (.tuple cs1) (.tuple cs2) = some (.tuple (cs1 ++ cs2)) := by
    show (if cs1.length + cs2.length ≤ cap then some (PyData.tuple (cs1 ++ cs2)) else none) = _
    rw [if_pos (cap_s (by omega))]
  generalize cs1 ++ cs2 = cs at *
  let Z : En := [none, none, none, none, none, none, none, none, none, none, none]
  have s1 : bl1 (start0 14 [L]) = some (.nx [some (.val L), some (.val (.tuple cs)), none, none, none, none, none, none, none, none, none, none, none, none]) := by
    have w1 : m__law_cards [L, .int 0, .list [.str "a", .str "bb", .str "lib"]] = some (.tuple cs1) := u1
    have w2 : m__law_cards [L, .int 40, .list [.str "a", .str "q"]] = some (.tuple cs2) := v1
    simp only [bl1, start0, sSeq, sAsg, sIf, sRet, sNext, sOwn, sFrz, sDrop, sPar, sPar3, sParOV, sParOO, sParOOO, sStop, mOp, mUn, mVar, mC, mTest, mTru, mIfE, mList, mLst, mStar, mCons, mNil, mTup, mCall, mCallL, mAnd, mOr, mNot, mAndV, mOrV, mNotV, mIter, mSl, mSlL, mPart, mNoPart, mIfL, mCatL, mCatV, gSet, gTupM, gConsM, gNilM, isI, frz, wipeM, lim, isB, its, List.map_cons, List.map_nil, List.length_cons, List.length_nil, List.replicate, List.replicate_zero, List.cons_append, List.nil_append, List.getElem?_cons_zero, List.getElem?_cons_succ, List.set_cons_zero, List.set_cons_succ, Option.bind_some, Option.bind_none, Option.map_some, Option.map_none, if_true, if_false, if_pos, Bool.not_true, Bool.not_false, Bool.false_eq_true, reduceCtorEq, sz2, sz3, w1, w2, ad]
  have hB : ∀ c ∈ cs.filter isF, InB c := fun c hc => by
    obtain ⟨h1, h2⟩ := List.mem_filter.mp hc
    rcases hcs c h1 with rfl | h
    · cases h2
    · exact h
  have lB : (cs.filter isF).length ≤ 8 := Nat.le_trans (List.length_filter_le _ _) lcs
  have s2 : bl2 [some (.val L), some (.val (.tuple cs)), none, none, none, none, none, none, none, none, none, none, none, none] = some (.nx [some (.val L), some (.val (.list (cs.filter isF))), none, none, none, none, none, none, none, none, none, none, none, none]) := by
    have hl : mLc (mIter (mVar 1)) (gSet 2) (mTest (mOp dEq (mCall dLen (mCons (mVar 2) mNil)) (mC (.int 3)))) (mVar 2) [2] [some (.val L), some (.val (.tuple cs)), none, none, none, none, none, none, none, none, none, none, none, none] = some ((cs.filter isF).map fun d => d) := by
      refine lc_if rfl (Nat.le_trans lcs (by decide)) fun d hd => ⟨_, rfl, ?_, fun _ => rfl⟩
      have I : InC d := by
        rcases hcs d hd with rfl | h
        · exact .inl rfl
        · exact .inr h.f
      have e := I.len
      show (((dLen [d]).bind fun x => dEq x (.int 3)).bind isB) = _
      rw [e]
      rfl
    rw [List.map_id'] at hl
    unfold bl2
    show (mList _ _).bind _ = _
    rw [list_of hl]
    rfl
  generalize cs.filter isF = C0 at *
  have s3 : bl3 [some (.val L), some (.val (.list C0)), none, none, none, none, none, none, none, none, none, none, none, none] = some (.nx [some (.val L), some (.val (.list C0)), none, some (.val (.int (0 - r))), none, none, none, none, none, none, none, none, none, none]) := by
    simp only [bl3, sSeq, sAsg, sIf, sRet, sNext, sOwn, sFrz, sDrop, sPar, sPar3, sParOV, sParOO, sParOOO, sStop, mOp, mUn, mVar, mC, mTest, mTru, mIfE, mList, mLst, mStar, mCons, mNil, mTup, mCall, mCallL, mAnd, mOr, mNot, mAndV, mOrV, mNotV, mIter, mSl, mSlL, mPart, mNoPart, mIfL, mCatL, mCatV, gSet, gTupM, gConsM, gNilM, isI, frz, wipeM, lim, isB, its, List.map_cons, List.map_nil, List.length_cons, List.length_nil, List.replicate, List.replicate_zero, List.cons_append, List.nil_append, List.getElem?_cons_zero, List.getElem?_cons_succ, List.set_cons_zero, List.set_cons_succ, Option.bind_some, Option.bind_none, Option.map_some, Option.map_none, if_true, if_false, if_pos, Bool.not_true, Bool.not_false, Bool.false_eq_true, reduceCtorEq, p, dSub_of]
  have kg := gen_in a b
  have s4 : bl4 [some (.val L), some (.val (.list C0)), none, some (.val (.int (0 - r))), none, none, none, none, none, none, none, none, none, none] = some (.nx [some (.val L), some (.val (.list (C0.map (bkC (0 - r))))), none, some (.val (.int (0 - r))), none, none, none, none, none, none, none, none, none, none]) := by
    have hl : mLc (mIter (mVar 1)) (gSet 2) mYes bkE [2] [some (.val L), some (.val (.list C0)), none, some (.val (.int (0 - r))), none, none, none, none, none, none, none, none, none, none] = some (C0.map (bkC (0 - r))) := by
      refine lc_of rfl (Nat.le_trans lB (by decide)) fun c hc => ⟨_, rfl, ?_⟩
      exact bkC_eq (hB c hc) (0 - r) _ _ _ _ _ _ _ _ _ _ _ _
    unfold bl4
    show (mList _ _).bind _ = _
    rw [list_of hl]
    rfl
  have hG : ∀ c ∈ C0.map (bkC (0 - r)), InG c := fun c hc => by
    obtain ⟨d, hd, rfl⟩ := List.mem_map.mp hc
    exact bkC_in (hB d hd) kg
  have lG : (C0.map (bkC (0 - r))).length ≤ 10 := by rw [List.length_map]; omega
  generalize C0.map (bkC (0 - r)) = C at *
  obtain ⟨z2, z4, z5, z6, z7, z8, z9, z10, hlp⟩ := ll C hG lG (some (.val (.int (0 - r)))) C hG none none none none none none none none
  have s5 : bl5 [some (.val L), some (.val (.list C)), none, some (.val (.int (0 - r))), none, none, none, none, none, none, none, none, none, none] = some (.nx (evT L (.list C) z2 (some (.val (.int (0 - r)))) z4 z5 z6 z7 z8 z9 z10)) := hlp
  refine mDef_rt ?_
  rw [law_form]
  exact (seq_nx s1).trans ((seq_nx s2).trans ((seq_nx s3).trans ((seq_nx s4).trans ((seq_nx s5).trans (end_true L C hG lG _ _ _ _ _ _ _ _ _)))))
end DD

set_option Elab.async false
set_option linter.all false
set_option maxRecDepth 100000
set_option maxHeartbeats 4000000
namespace DD
open PySem PySem.Spec PyProof.Rows L2
theorem sp_law {K : PySem.W.Frag} {H : Hp} {a : Addr} {ns : List Int} {E : XK} (hl : ns.length ≤ 63) (hS : SqL K H a (ns.map V.int)) : spM K 1 m_law [.ref a] H (fun v _ => v = .bl true) E := by
  have e : H = ov H (fun _ => none) := by
    funext b
    rfl
  exact ⟨[.list (ns.map .int)], .bool true, H, fun _ => none, .cons (.lst hS (dpa_ints ns)) .nil, rfl, law_true ns hl, e, (fun _ _ h => nomatch h), fun v H' _ _ g => dp_bool g⟩
theorem all_mk {w : World} {K : PySem.W.Frag} {h : Heap} {mg : Str → Option Value} {fa : Addr} (X : K.In h) (G : h.Ns mainGlobals mg) (hfa : mg "law" = some (.ref fa))
    {f1 : Addr} {od1 an1 : Option Addr} {sl1 : Array (Option Value)} {oc1 kV1 dc1 pm1 cd1 ct1 : Value}
    (a1 : PySem.W.nsIn K mainGlobals "is_whole" = some (some (.ref f1))) (l1 : K.lookup f1 = some ⟨oc1, od1, .func (PySem.W.fnOf "is_whole" "is_whole" (defArgs s_is_whole) (defBody s_is_whole) (defScope s_is_whole) .none kV1 dc1 pm1 an1 cd1 ct1), sl1⟩) (c1 : PySem.W.codeIn K cd1 "is_whole" = true) (k1 : PySem.W.keepIn K (.ref f1) = true)
    {f2 : Addr} {od2 an2 : Option Addr} {sl2 : Array (Option Value)} {oc2 kV2 dc2 pm2 cd2 ct2 : Value}
    (a2 : PySem.W.nsIn K mainGlobals "is_name" = some (some (.ref f2))) (l2 : K.lookup f2 = some ⟨oc2, od2, .func (PySem.W.fnOf "is_name" "is_name" (defArgs s_is_name) (defBody s_is_name) (defScope s_is_name) .none kV2 dc2 pm2 an2 cd2 ct2), sl2⟩) (c2 : PySem.W.codeIn K cd2 "is_name" = true) (k2 : PySem.W.keepIn K (.ref f2) = true)
    {f3 : Addr} {od3 an3 : Option Addr} {sl3 : Array (Option Value)} {oc3 kV3 dc3 pm3 cd3 ct3 : Value}
    (a3 : PySem.W.nsIn K mainGlobals "is_file_card" = some (some (.ref f3))) (l3 : K.lookup f3 = some ⟨oc3, od3, .func (PySem.W.fnOf "is_file_card" "is_file_card" (defArgs s_is_file_card) (defBody s_is_file_card) (defScope s_is_file_card) .none kV3 dc3 pm3 an3 cd3 ct3), sl3⟩) (c3 : PySem.W.codeIn K cd3 "is_file_card" = true) (k3 : PySem.W.keepIn K (.ref f3) = true)
    {f4 : Addr} {od4 an4 : Option Addr} {sl4 : Array (Option Value)} {oc4 kV4 dc4 pm4 cd4 ct4 : Value}
    (a4 : PySem.W.nsIn K mainGlobals "is_name_alone" = some (some (.ref f4))) (l4 : K.lookup f4 = some ⟨oc4, od4, .func (PySem.W.fnOf "is_name_alone" "is_name_alone" (defArgs s_is_name_alone) (defBody s_is_name_alone) (defScope s_is_name_alone) .none kV4 dc4 pm4 an4 cd4 ct4), sl4⟩) (c4 : PySem.W.codeIn K cd4 "is_name_alone" = true) (k4 : PySem.W.keepIn K (.ref f4) = true)
    {f5 : Addr} {od5 an5 : Option Addr} {sl5 : Array (Option Value)} {oc5 kV5 dc5 pm5 cd5 ct5 : Value}
    (a5 : PySem.W.nsIn K mainGlobals "is_for_file" = some (some (.ref f5))) (l5 : K.lookup f5 = some ⟨oc5, od5, .func (PySem.W.fnOf "is_for_file" "is_for_file" (defArgs s_is_for_file) (defBody s_is_for_file) (defScope s_is_for_file) .none kV5 dc5 pm5 an5 cd5 ct5), sl5⟩) (c5 : PySem.W.codeIn K cd5 "is_for_file" = true) (k5 : PySem.W.keepIn K (.ref f5) = true)
    {f6 : Addr} {od6 an6 : Option Addr} {sl6 : Array (Option Value)} {oc6 kV6 dc6 pm6 cd6 ct6 : Value}
    (a6 : PySem.W.nsIn K mainGlobals "library_of" = some (some (.ref f6))) (l6 : K.lookup f6 = some ⟨oc6, od6, .func (PySem.W.fnOf "library_of" "library_of" (defArgs s_library_of) (defBody s_library_of) (defScope s_library_of) .none kV6 dc6 pm6 an6 cd6 ct6), sl6⟩) (c6 : PySem.W.codeIn K cd6 "library_of" = true) (k6 : PySem.W.keepIn K (.ref f6) = true)
    {f7 : Addr} {od7 an7 : Option Addr} {sl7 : Array (Option Value)} {oc7 kV7 dc7 pm7 cd7 ct7 : Value}
    (a7 : PySem.W.nsIn K mainGlobals "card_line" = some (some (.ref f7))) (l7 : K.lookup f7 = some ⟨oc7, od7, .func (PySem.W.fnOf "card_line" "card_line" (defArgs s_card_line) (defBody s_card_line) (defScope s_card_line) .none kV7 dc7 pm7 an7 cd7 ct7), sl7⟩) (c7 : PySem.W.codeIn K cd7 "card_line" = true) (k7 : PySem.W.keepIn K (.ref f7) = true)
    {f8 : Addr} {od8 an8 : Option Addr} {sl8 : Array (Option Value)} {oc8 kV8 dc8 pm8 cd8 ct8 : Value}
    (a8 : PySem.W.nsIn K mainGlobals "card_in" = some (some (.ref f8))) (l8 : K.lookup f8 = some ⟨oc8, od8, .func (PySem.W.fnOf "card_in" "card_in" (defArgs s_card_in) (defBody s_card_in) (defScope s_card_in) .none kV8 dc8 pm8 an8 cd8 ct8), sl8⟩) (c8 : PySem.W.codeIn K cd8 "card_in" = true) (k8 : PySem.W.keepIn K (.ref f8) = true)
    {f9 : Addr} {od9 an9 : Option Addr} {sl9 : Array (Option Value)} {oc9 kV9 dc9 pm9 cd9 ct9 : Value}
    (a9 : PySem.W.nsIn K mainGlobals "passes_of" = some (some (.ref f9))) (l9 : K.lookup f9 = some ⟨oc9, od9, .func (PySem.W.fnOf "passes_of" "passes_of" (defArgs s_passes_of) (defBody s_passes_of) (defScope s_passes_of) .none kV9 dc9 pm9 an9 cd9 ct9), sl9⟩) (c9 : PySem.W.codeIn K cd9 "passes_of" = true) (k9 : PySem.W.keepIn K (.ref f9) = true)
    {f10 : Addr} {od10 an10 : Option Addr} {sl10 : Array (Option Value)} {oc10 kV10 dc10 pm10 cd10 ct10 : Value}
    (a10 : PySem.W.nsIn K mainGlobals "needs_of" = some (some (.ref f10))) (l10 : K.lookup f10 = some ⟨oc10, od10, .func (PySem.W.fnOf "needs_of" "needs_of" (defArgs s_needs_of) (defBody s_needs_of) (defScope s_needs_of) .none kV10 dc10 pm10 an10 cd10 ct10), sl10⟩) (c10 : PySem.W.codeIn K cd10 "needs_of" = true) (k10 : PySem.W.keepIn K (.ref f10) = true)
    {f11 : Addr} {od11 an11 : Option Addr} {sl11 : Array (Option Value)} {oc11 kV11 dc11 pm11 cd11 ct11 : Value}
    (a11 : PySem.W.nsIn K mainGlobals "is_shared_kept" = some (some (.ref f11))) (l11 : K.lookup f11 = some ⟨oc11, od11, .func (PySem.W.fnOf "is_shared_kept" "is_shared_kept" (defArgs s_is_shared_kept) (defBody s_is_shared_kept) (defScope s_is_shared_kept) .none kV11 dc11 pm11 an11 cd11 ct11), sl11⟩) (c11 : PySem.W.codeIn K cd11 "is_shared_kept" = true) (k11 : PySem.W.keepIn K (.ref f11) = true)
    {f12 : Addr} {od12 an12 : Option Addr} {sl12 : Array (Option Value)} {oc12 kV12 dc12 pm12 cd12 ct12 : Value}
    (a12 : PySem.W.nsIn K mainGlobals "_is_reference" = some (some (.ref f12))) (l12 : K.lookup f12 = some ⟨oc12, od12, .func (PySem.W.fnOf "_is_reference" "_is_reference" (defArgs s__is_reference) (defBody s__is_reference) (defScope s__is_reference) .none kV12 dc12 pm12 an12 cd12 ct12), sl12⟩) (c12 : PySem.W.codeIn K cd12 "_is_reference" = true) (k12 : PySem.W.keepIn K (.ref f12) = true)
    {f13 : Addr} {od13 an13 : Option Addr} {sl13 : Array (Option Value)} {oc13 kV13 dc13 pm13 cd13 ct13 : Value}
    (a13 : PySem.W.nsIn K mainGlobals "_are_texts" = some (some (.ref f13))) (l13 : K.lookup f13 = some ⟨oc13, od13, .func (PySem.W.fnOf "_are_texts" "_are_texts" (defArgs s__are_texts) (defBody s__are_texts) (defScope s__are_texts) .none kV13 dc13 pm13 an13 cd13 ct13), sl13⟩) (c13 : PySem.W.codeIn K cd13 "_are_texts" = true) (k13 : PySem.W.keepIn K (.ref f13) = true)
    {f14 : Addr} {od14 an14 : Option Addr} {sl14 : Array (Option Value)} {oc14 kV14 dc14 pm14 cd14 ct14 : Value}
    (a14 : PySem.W.nsIn K mainGlobals "_part_text" = some (some (.ref f14))) (l14 : K.lookup f14 = some ⟨oc14, od14, .func (PySem.W.fnOf "_part_text" "_part_text" (defArgs s__part_text) (defBody s__part_text) (defScope s__part_text) .none kV14 dc14 pm14 an14 cd14 ct14), sl14⟩) (c14 : PySem.W.codeIn K cd14 "_part_text" = true) (k14 : PySem.W.keepIn K (.ref f14) = true)
    {f15 : Addr} {od15 an15 : Option Addr} {sl15 : Array (Option Value)} {oc15 kV15 dc15 pm15 cd15 ct15 : Value}
    (a15 : PySem.W.nsIn K mainGlobals "_read_part" = some (some (.ref f15))) (l15 : K.lookup f15 = some ⟨oc15, od15, .func (PySem.W.fnOf "_read_part" "_read_part" (defArgs s__read_part) (defBody s__read_part) (defScope s__read_part) .none kV15 dc15 pm15 an15 cd15 ct15), sl15⟩) (c15 : PySem.W.codeIn K cd15 "_read_part" = true) (k15 : PySem.W.keepIn K (.ref f15) = true)
    {f16 : Addr} {od16 an16 : Option Addr} {sl16 : Array (Option Value)} {oc16 kV16 dc16 pm16 cd16 ct16 : Value}
    (a16 : PySem.W.nsIn K mainGlobals "_read_generation" = some (some (.ref f16))) (l16 : K.lookup f16 = some ⟨oc16, od16, .func (PySem.W.fnOf "_read_generation" "_read_generation" (defArgs s__read_generation) (defBody s__read_generation) (defScope s__read_generation) .none kV16 dc16 pm16 an16 cd16 ct16), sl16⟩) (c16 : PySem.W.codeIn K cd16 "_read_generation" = true) (k16 : PySem.W.keepIn K (.ref f16) = true)
    {f17 : Addr} {od17 an17 : Option Addr} {sl17 : Array (Option Value)} {oc17 kV17 dc17 pm17 cd17 ct17 : Value}
    (a17 : PySem.W.nsIn K mainGlobals "_passed_behind" = some (some (.ref f17))) (l17 : K.lookup f17 = some ⟨oc17, od17, .func (PySem.W.fnOf "_passed_behind" "_passed_behind" (defArgs s__passed_behind) (defBody s__passed_behind) (defScope s__passed_behind) .none kV17 dc17 pm17 an17 cd17 ct17), sl17⟩) (c17 : PySem.W.codeIn K cd17 "_passed_behind" = true) (k17 : PySem.W.keepIn K (.ref f17) = true)
    {f18 : Addr} {od18 an18 : Option Addr} {sl18 : Array (Option Value)} {oc18 kV18 dc18 pm18 cd18 ct18 : Value}
    (a18 : PySem.W.nsIn K mainGlobals "_rising" = some (some (.ref f18))) (l18 : K.lookup f18 = some ⟨oc18, od18, .func (PySem.W.fnOf "_rising" "_rising" (defArgs s__rising) (defBody s__rising) (defScope s__rising) .none kV18 dc18 pm18 an18 cd18 ct18), sl18⟩) (c18 : PySem.W.codeIn K cd18 "_rising" = true) (k18 : PySem.W.keepIn K (.ref f18) = true)
    {f19 : Addr} {od19 an19 : Option Addr} {sl19 : Array (Option Value)} {oc19 kV19 dc19 pm19 cd19 ct19 : Value}
    (a19 : PySem.W.nsIn K mainGlobals "_law_drawn" = some (some (.ref f19))) (l19 : K.lookup f19 = some ⟨oc19, od19, .func (PySem.W.fnOf "_law_drawn" "_law_drawn" (defArgs s__law_drawn) (defBody s__law_drawn) (defScope s__law_drawn) .none kV19 dc19 pm19 an19 cd19 ct19), sl19⟩) (c19 : PySem.W.codeIn K cd19 "_law_drawn" = true) (k19 : PySem.W.keepIn K (.ref f19) = true)
    {f20 : Addr} {od20 an20 : Option Addr} {sl20 : Array (Option Value)} {oc20 kV20 dc20 pm20 cd20 ct20 : Value}
    (a20 : PySem.W.nsIn K mainGlobals "_law_cards" = some (some (.ref f20))) (l20 : K.lookup f20 = some ⟨oc20, od20, .func (PySem.W.fnOf "_law_cards" "_law_cards" (defArgs s__law_cards) (defBody s__law_cards) (defScope s__law_cards) .none kV20 dc20 pm20 an20 cd20 ct20), sl20⟩) (c20 : PySem.W.codeIn K cd20 "_law_cards" = true) (k20 : PySem.W.keepIn K (.ref f20) = true)
    {f21 : Addr} {od21 an21 : Option Addr} {sl21 : Array (Option Value)} {oc21 kV21 dc21 pm21 cd21 ct21 : Value}
    (a21 : PySem.W.nsIn K mainGlobals "_law_again" = some (some (.ref f21))) (l21 : K.lookup f21 = some ⟨oc21, od21, .func (PySem.W.fnOf "_law_again" "_law_again" (defArgs s__law_again) (defBody s__law_again) (defScope s__law_again) .none kV21 dc21 pm21 an21 cd21 ct21), sl21⟩) (c21 : PySem.W.codeIn K cd21 "_law_again" = true) (k21 : PySem.W.keepIn K (.ref f21) = true)
    {f22 : Addr} {od22 an22 : Option Addr} {sl22 : Array (Option Value)} {oc22 kV22 dc22 pm22 cd22 ct22 : Value}
    (a22 : PySem.W.nsIn K mainGlobals "law" = some (some (.ref f22))) (l22 : K.lookup f22 = some ⟨oc22, od22, .func (PySem.W.fnOf "law" "law" (defArgs s_law) (defBody s_law) (defScope s_law) .none kV22 dc22 pm22 an22 cd22 ct22), sl22⟩) (c22 : PySem.W.codeIn K cd22 "law" = true) (k22 : PySem.W.keepIn K (.ref f22) = true)
    {t23 : Tok} (c_MOST_LETTERS : PySem.W.nsIn K mainGlobals "MOST_LETTERS" = some (some (.int (8) t23)))
    {t24 : Tok} (c_LETTERS : PySem.W.nsIn K mainGlobals "LETTERS" = some (some (.str "abcdefghijklmnopqrstuvwxyz" t24)))
    {f25 : Addr} {o25 : Option Addr} {i25 : Array Value} {m25 : Nat} {s25 : Array (Option Value)} (c_HOWS : PySem.W.nsIn K mainGlobals "HOWS" = some (some (.ref f25))) (t_HOWS : K.lookup f25 = some ⟨.type "tuple", o25, .seq i25 m25, s25⟩) (z_HOWS : i25.size ≤ 1000) (u_HOWS : deVs (deV K 2) i25.toList = some [(.str ("old" : Str)), (.str ("shared" : Str)), (.str ("new" : Str)), (.str ("more" : Str))])
    {f26 : Addr} {o26 : Option Addr} {i26 : Array Value} {m26 : Nat} {s26 : Array (Option Value)} (c_THENS : PySem.W.nsIn K mainGlobals "THENS" = some (some (.ref f26))) (t_THENS : K.lookup f26 = some ⟨.type "tuple", o26, .seq i26 m26, s26⟩) (z_THENS : i26.size ≤ 1000) (u_THENS : deVs (deV K 2) i26.toList = some [(.str ("keep" : Str)), (.str ("drop" : Str)), (.str ("pass" : Str))])
    {t27 : Tok} (c_NEXT_GENERATION : PySem.W.nsIn K mainGlobals "NEXT_GENERATION" = some (some (.int (1) t27)))
    {t28 : Tok} (c_MANY_PARTS : PySem.W.nsIn K mainGlobals "MANY_PARTS" = some (some (.int (6) t28)))
    {t29 : Tok} (c_LEAST_GENERATION : PySem.W.nsIn K mainGlobals "LEAST_GENERATION" = some (some (.int (-8) t29)))
    {t30 : Tok} (c_NOTHING : PySem.W.nsIn K mainGlobals "NOTHING" = some (some (.str "-" t30)))
    {f31 : Addr} (a_NoText : PySem.W.nsIn K mainGlobals "NoText" = some (some (.ref f31)))
    (kb_NoText : PySem.W.subIn K (.ref f31) (.type "BaseException") = some true) (kd_NoText : PySem.W.hasDictIn K f31 = true) (kt_NoText : PySem.W.typeIn K (.ref f31) = some (.type "type")) (ki_NoText : PySem.W.isClsIn K f31 = true) (ks_NoText : PySem.W.subIn K (.ref f31) (.ref f31) = some true)
    (kx_NoText : PySem.W.excIn K f31 [.type "ValueError", .type "Exception", .type "BaseException", .type "object"] "ValueError.__new__" = true) (kk_NoText : PySem.W.keepIn K (.ref f31) = true)
    (k1_NoText : PySem.W.findIn K (.ref f31) "__getattribute__" = some (some (.builtin "BaseException.__getattribute__"))) (k2_NoText : PySem.W.findIn K (.ref f31) "__getattr__" = some none) (k3_NoText : PySem.W.findIn K (.ref f31) "__class__" = some (some (.builtin "object.__class__"))) (k4_NoText : PySem.W.specialIn K (.builtin "object.__class__") "__get__" = some (some (.builtin "getset_descriptor.__get__"))) (k5_NoText : PySem.W.takesIn K (.builtin "object.__class__") = some true) (k6_NoText : PySem.W.mroIn K f31 (.type "object") = some true)
    {f32 : Addr} (a_YardError : PySem.W.nsIn K mainGlobals "YardError" = some (some (.ref f32)))
    (kb_YardError : PySem.W.subIn K (.ref f32) (.type "BaseException") = some true) (kd_YardError : PySem.W.hasDictIn K f32 = true) (kt_YardError : PySem.W.typeIn K (.ref f32) = some (.type "type")) (ki_YardError : PySem.W.isClsIn K f32 = true) (ks_YardError : PySem.W.subIn K (.ref f32) (.ref f32) = some true)
    (kp_NoText_NoText : PySem.W.subIn K (.ref f31) (.ref f31) = some true)
    (kp_NoText_YardError : PySem.W.subIn K (.ref f31) (.ref f32) = some true)
    (z_isinstance : PySem.W.nsIn K mainGlobals "isinstance" = some none)
    (z_int : PySem.W.nsIn K mainGlobals "int" = some none)
    (z_bool : PySem.W.nsIn K mainGlobals "bool" = some none)
    (z_str : PySem.W.nsIn K mainGlobals "str" = some none)
    (z_len : PySem.W.nsIn K mainGlobals "len" = some none)
    (z_all : PySem.W.nsIn K mainGlobals "all" = some none)
    (z_tuple : PySem.W.nsIn K mainGlobals "tuple" = some none)
    (z_zip : PySem.W.nsIn K mainGlobals "zip" = some none)
    (z_list : PySem.W.nsIn K mainGlobals "list" = some none)
    (z_range : PySem.W.nsIn K mainGlobals "range" = some none)
    (z_sorted : PySem.W.nsIn K mainGlobals "sorted" = some none)
    (z_set : PySem.W.nsIn K mainGlobals "set" = some none) :
    ∃ fd : FuncData, (∀ (s : Shared) (v : Value), BindsTo s fd ⟨[v], []⟩ [("_law_script", v)]) ∧ ∀ base : Heap, K.In base → base.Ns mainGlobals mg → FnOk PySem.Challenge.rw_batchyard_k65_whole_cards.prog w K mg base CX0 6 fa fd ["_law_script"] (spM K 1 m_law) := by
  have e := hfa.symm.trans (PySem.W.mg_of X G a22)
  cases e
  have F1 := fun_mk (st := s_is_whole) l1 c1 k1
  have F2 := fun_mk (st := s_is_name) l2 c2 k2
  have F3 := fun_mk (st := s_is_file_card) l3 c3 k3
  have F4 := fun_mk (st := s_is_name_alone) l4 c4 k4
  have F5 := fun_mk (st := s_is_for_file) l5 c5 k5
  have F6 := fun_mk (st := s_library_of) l6 c6 k6
  have F7 := fun_mk (st := s_card_line) l7 c7 k7
  have F8 := fun_mk (st := s_card_in) l8 c8 k8
  have F9 := fun_mk (st := s_passes_of) l9 c9 k9
  have F10 := fun_mk (st := s_needs_of) l10 c10 k10
  have F11 := fun_mk (st := s_is_shared_kept) l11 c11 k11
  have F12 := fun_mk (st := s__is_reference) l12 c12 k12
  have F13 := fun_mk (st := s__are_texts) l13 c13 k13
  have F14 := fun_mk (st := s__part_text) l14 c14 k14
  have F15 := fun_mk (st := s__read_part) l15 c15 k15
  have F16 := fun_mk (st := s__read_generation) l16 c16 k16
  have F17 := fun_mk (st := s__passed_behind) l17 c17 k17
  have F18 := fun_mk (st := s__rising) l18 c18 k18
  have F19 := fun_mk (st := s__law_drawn) l19 c19 k19
  have F20 := fun_mk (st := s__law_cards) l20 c20 k20
  have F21 := fun_mk (st := s__law_again) l21 c21 k21
  have F22 := fun_mk (st := s_law) l22 c22 k22
  let T : Tx K w mg := {
    f_is_whole := f1, d_is_whole := _, F_is_whole := F1, b_is_whole := F1.binds (ps := ["thing", "low", "high"]) fun _ _ _ _ _ _ us hl => match us, hl with | [_, _, _], _ => rfl, g_is_whole := PySem.W.mg_of X G a1,
    f_is_name := f2, d_is_name := _, F_is_name := F2, b_is_name := F2.binds (ps := ["thing"]) fun _ _ _ _ _ _ us hl => match us, hl with | [_], _ => rfl, g_is_name := PySem.W.mg_of X G a2,
    f_is_file_card := f3, d_is_file_card := _, F_is_file_card := F3, b_is_file_card := F3.binds (ps := ["thing"]) fun _ _ _ _ _ _ us hl => match us, hl with | [_], _ => rfl, g_is_file_card := PySem.W.mg_of X G a3,
    f_is_name_alone := f4, d_is_name_alone := _, F_is_name_alone := F4, b_is_name_alone := F4.binds (ps := ["reference"]) fun _ _ _ _ _ _ us hl => match us, hl with | [_], _ => rfl, g_is_name_alone := PySem.W.mg_of X G a4,
    f_is_for_file := f5, d_is_for_file := _, F_is_for_file := F5, b_is_for_file := F5.binds (ps := ["card"]) fun _ _ _ _ _ _ us hl => match us, hl with | [_], _ => rfl, g_is_for_file := PySem.W.mg_of X G a5,
    f_library_of := f6, d_library_of := _, F_library_of := F6, b_library_of := F6.binds (ps := ["program"]) fun _ _ _ _ _ _ us hl => match us, hl with | [_], _ => rfl, g_library_of := PySem.W.mg_of X G a6,
    f_card_line := f7, d_card_line := _, F_card_line := F7, b_card_line := F7.binds (ps := ["card"]) fun _ _ _ _ _ _ us hl => match us, hl with | [_], _ => rfl, g_card_line := PySem.W.mg_of X G a7,
    f_card_in := f8, d_card_in := _, F_card_in := F8, b_card_in := F8.binds (ps := ["words"]) fun _ _ _ _ _ _ us hl => match us, hl with | [_], _ => rfl, g_card_in := PySem.W.mg_of X G a8,
    f_passes_of := f9, d_passes_of := _, F_passes_of := F9, b_passes_of := F9.binds (ps := ["steps"]) fun _ _ _ _ _ _ us hl => match us, hl with | [_], _ => rfl, g_passes_of := PySem.W.mg_of X G a9,
    f_needs_of := f10, d_needs_of := _, F_needs_of := F10, b_needs_of := F10.binds (ps := ["steps"]) fun _ _ _ _ _ _ us hl => match us, hl with | [_], _ => rfl, g_needs_of := PySem.W.mg_of X G a10,
    f_is_shared_kept := f11, d_is_shared_kept := _, F_is_shared_kept := F11, b_is_shared_kept := F11.binds (ps := ["card"]) fun _ _ _ _ _ _ us hl => match us, hl with | [_], _ => rfl, g_is_shared_kept := PySem.W.mg_of X G a11,
    f__is_reference := f12, d__is_reference := _, F__is_reference := F12, b__is_reference := F12.binds (ps := ["thing"]) fun _ _ _ _ _ _ us hl => match us, hl with | [_], _ => rfl, g__is_reference := PySem.W.mg_of X G a12,
    f__are_texts := f13, d__are_texts := _, F__are_texts := F13, b__are_texts := F13.binds (ps := ["thing"]) fun _ _ _ _ _ _ us hl => match us, hl with | [_], _ => rfl, g__are_texts := PySem.W.mg_of X G a13,
    f__part_text := f14, d__part_text := _, F__part_text := F14, b__part_text := F14.binds (ps := ["part"]) fun _ _ _ _ _ _ us hl => match us, hl with | [_], _ => rfl, g__part_text := PySem.W.mg_of X G a14,
    f__read_part := f15, d__read_part := _, F__read_part := F15, b__read_part := F15.binds (ps := ["word"]) fun _ _ _ _ _ _ us hl => match us, hl with | [_], _ => rfl, g__read_part := PySem.W.mg_of X G a15,
    f__read_generation := f16, d__read_generation := _, F__read_generation := F16, b__read_generation := F16.binds (ps := ["word"]) fun _ _ _ _ _ _ us hl => match us, hl with | [_], _ => rfl, g__read_generation := PySem.W.mg_of X G a16,
    f__passed_behind := f17, d__passed_behind := _, F__passed_behind := F17, b__passed_behind := F17.binds (ps := ["passed", "card"]) fun _ _ _ _ _ _ us hl => match us, hl with | [_, _], _ => rfl, g__passed_behind := PySem.W.mg_of X G a17,
    f__rising := f18, d__rising := _, F__rising := F18, b__rising := F18.binds (ps := ["names"]) fun _ _ _ _ _ _ us hl => match us, hl with | [_], _ => rfl, g__rising := PySem.W.mg_of X G a18,
    f__law_drawn := f19, d__law_drawn := _, F__law_drawn := F19, b__law_drawn := F19.binds (ps := ["_law_script", "_law_k", "_law_many"]) fun _ _ _ _ _ _ us hl => match us, hl with | [_, _, _], _ => rfl, g__law_drawn := PySem.W.mg_of X G a19,
    f__law_cards := f20, d__law_cards := _, F__law_cards := F20, b__law_cards := F20.binds (ps := ["_law_script", "_law_at", "_law_names"]) fun _ _ _ _ _ _ us hl => match us, hl with | [_, _, _], _ => rfl, g__law_cards := PySem.W.mg_of X G a20,
    f__law_again := f21, d__law_again := _, F__law_again := F21, b__law_again := F21.binds (ps := ["_law_line"]) fun _ _ _ _ _ _ us hl => match us, hl with | [_], _ => rfl, g__law_again := PySem.W.mg_of X G a21,
    f_law := fa, d_law := _, F_law := F22, b_law := F22.binds (ps := ["_law_script"]) fun _ _ _ _ _ _ us hl => match us, hl with | [_], _ => rfl, g_law := PySem.W.mg_of X G a22,
    t_MOST_LETTERS := t23, c_MOST_LETTERS := PySem.W.mg_of X G c_MOST_LETTERS,
    t_LETTERS := t24, c_LETTERS := PySem.W.mg_of X G c_LETTERS,
    k_HOWS := f25, C_HOWS := tup_const t_HOWS z_HOWS u_HOWS, c_HOWS := PySem.W.mg_of X G c_HOWS,
    k_THENS := f26, C_THENS := tup_const t_THENS z_THENS u_THENS, c_THENS := PySem.W.mg_of X G c_THENS,
    t_NEXT_GENERATION := t27, c_NEXT_GENERATION := PySem.W.mg_of X G c_NEXT_GENERATION,
    t_MANY_PARTS := t28, c_MANY_PARTS := PySem.W.mg_of X G c_MANY_PARTS,
    t_LEAST_GENERATION := t29, c_LEAST_GENERATION := PySem.W.mg_of X G c_LEAST_GENERATION,
    t_NOTHING := t30, c_NOTHING := PySem.W.mg_of X G c_NOTHING,
    C_NoText := f31, g_NoText := PySem.W.mg_of X G a_NoText,
    x_NoText := kx_NoText, k_NoText := kk_NoText, b_NoText := kb_NoText, t_NoText := kt_NoText,
    E_NoText := ⟨k1_NoText, k2_NoText, kb_NoText, kd_NoText, k3_NoText, k4_NoText, k5_NoText, k6_NoText⟩,
    C_YardError := f32, g_YardError := PySem.W.mg_of X G a_YardError,
    e_NoText_YardError := PySem.W.exm_ref kb_YardError kd_YardError kt_YardError kp_NoText_YardError,
    q_NoText_NoText := kit_of ki_NoText kt_NoText kp_NoText_NoText ks_NoText,
    n_isinstance := PySem.W.mg_none_of X G z_isinstance,
    n_int := PySem.W.mg_none_of X G z_int,
    n_bool := PySem.W.mg_none_of X G z_bool,
    n_str := PySem.W.mg_none_of X G z_str,
    n_len := PySem.W.mg_none_of X G z_len,
    n_all := PySem.W.mg_none_of X G z_all,
    n_tuple := PySem.W.mg_none_of X G z_tuple,
    n_zip := PySem.W.mg_none_of X G z_zip,
    n_list := PySem.W.mg_none_of X G z_list,
    n_range := PySem.W.mg_none_of X G z_range,
    n_sorted := PySem.W.mg_none_of X G z_sorted,
    n_set := PySem.W.mg_none_of X G z_set }
  exact ⟨PySem.W.fnOf "law" "law" (defArgs s_law) (defBody s_law) (defScope s_law) .none kV22 dc22 pm22 an22 cd22 ct22, fun s v => .of_eq rfl, fun base _ _ => ok_law T⟩
end DD
open PySem PySem.W PyProof.Rows
set_option maxHeartbeats 0 in
theorem PySem.Challenge.cw_batchyard_k65_whole_cards_holds : PySem.Challenge.rw_batchyard_k65_whole_cards.Holds := by
  w_on; o_law; k_head; (case hw => w_witness2)
  k_fill
  refine L2.walk_of (l := PySem.Challenge.rw_batchyard_k65_whole_cards) (n := 63) (k := 6) (x := "_law_script") (CX := fun _ => L2.CX0) (sp := fun w => DD.spM _ 1 DD.m_law) rfl (by decide) rfl ⟨rfl, by decide, by decide⟩ (fun w h Y => PySem.W.kIn_of Y) ?F (fun _ _ a ns hl _ hS => DD.sp_law hl hS) (fun _ _ _ _ _ h => h)
  case F =>
    intro w mg fa h KX G hmg
    refine' DD.all_mk KX G hmg ?a1 ?l1 ?c1 ?k1 ?a2 ?l2 ?c2 ?k2 ?a3 ?l3 ?c3 ?k3 ?a4 ?l4 ?c4 ?k4 ?a5 ?l5 ?c5 ?k5 ?a6 ?l6 ?c6 ?k6 ?a7 ?l7 ?c7 ?k7 ?a8 ?l8 ?c8 ?k8 ?a9 ?l9 ?c9 ?k9 ?a10 ?l10 ?c10 ?k10 ?a11 ?l11 ?c11 ?k11 ?a12 ?l12 ?c12 ?k12 ?a13 ?l13 ?c13 ?k13 ?a14 ?l14 ?c14 ?k14 ?a15 ?l15 ?c15 ?k15 ?a16 ?l16 ?c16 ?k16 ?a17 ?l17 ?c17 ?k17 ?a18 ?l18 ?c18 ?k18 ?a19 ?l19 ?c19 ?k19 ?a20 ?l20 ?c20 ?k20 ?a21 ?l21 ?c21 ?k21 ?a22 ?l22 ?c22 ?k22 ?c_MOST_LETTERS ?c_LETTERS ?c_HOWS ?t_HOWS ?z_HOWS ?u_HOWS ?c_THENS ?t_THENS ?z_THENS ?u_THENS ?c_NEXT_GENERATION ?c_MANY_PARTS ?c_LEAST_GENERATION ?c_NOTHING ?a_NoText ?kb_NoText ?kd_NoText ?kt_NoText ?ki_NoText ?ks_NoText ?kx_NoText ?kk_NoText ?k1_NoText ?k2_NoText ?k3_NoText ?k4_NoText ?k5_NoText ?k6_NoText ?a_YardError ?kb_YardError ?kd_YardError ?kt_YardError ?ki_YardError ?ks_YardError ?kp_NoText_NoText ?kp_NoText_YardError ?z_isinstance ?z_int ?z_bool ?z_str ?z_len ?z_all ?z_tuple ?z_zip ?z_list ?z_range ?z_sorted ?z_set
    (case a1 => k_is); (case l1 => k_is); (case c1 => k_is); (case k1 => k_is); (case a2 => k_is); (case l2 => k_is); (case c2 => k_is); (case k2 => k_is); (case a3 => k_is); (case l3 => k_is); (case c3 => k_is); (case k3 => k_is); (case a4 => k_is); (case l4 => k_is); (case c4 => k_is); (case k4 => k_is); (case a5 => k_is); (case l5 => k_is); (case c5 => k_is); (case k5 => k_is); (case a6 => k_is); (case l6 => k_is); (case c6 => k_is); (case k6 => k_is); (case a7 => k_is); (case l7 => k_is); (case c7 => k_is); (case k7 => k_is); (case a8 => k_is); (case l8 => k_is); (case c8 => k_is); (case k8 => k_is); (case a9 => k_is); (case l9 => k_is); (case c9 => k_is); (case k9 => k_is); (case a10 => k_is); (case l10 => k_is); (case c10 => k_is); (case k10 => k_is); (case a11 => k_is); (case l11 => k_is); (case c11 => k_is); (case k11 => k_is); (case a12 => k_is); (case l12 => k_is); (case c12 => k_is); (case k12 => k_is); (case a13 => k_is); (case l13 => k_is); (case c13 => k_is); (case k13 => k_is); (case a14 => k_is); (case l14 => k_is); (case c14 => k_is); (case k14 => k_is); (case a15 => k_is); (case l15 => k_is); (case c15 => k_is); (case k15 => k_is); (case a16 => k_is); (case l16 => k_is); (case c16 => k_is); (case k16 => k_is); (case a17 => k_is); (case l17 => k_is); (case c17 => k_is); (case k17 => k_is); (case a18 => k_is); (case l18 => k_is); (case c18 => k_is); (case k18 => k_is); (case a19 => k_is); (case l19 => k_is); (case c19 => k_is); (case k19 => k_is); (case a20 => k_is); (case l20 => k_is); (case c20 => k_is); (case k20 => k_is); (case a21 => k_is); (case l21 => k_is); (case c21 => k_is); (case k21 => k_is); (case a22 => k_is); (case l22 => k_is); (case c22 => k_is); (case k22 => k_is); (case c_MOST_LETTERS => k_is); (case c_LETTERS => k_is); (case c_HOWS => k_is); (case t_HOWS => k_is); (case z_HOWS => decide); (case u_HOWS => rfl); (case c_THENS => k_is); (case t_THENS => k_is); (case z_THENS => decide); (case u_THENS => rfl); (case c_NEXT_GENERATION => k_is); (case c_MANY_PARTS => k_is); (case c_LEAST_GENERATION => k_is); (case c_NOTHING => k_is); (case a_NoText => k_is); (case kb_NoText => k_is); (case kd_NoText => k_is); (case kt_NoText => k_is); (case ki_NoText => k_is); (case ks_NoText => first | k_is | rfl); (case kx_NoText => k_exc); (case kk_NoText => k_is); (case k1_NoText => k_is); (case k2_NoText => k_is); (case k3_NoText => k_is); (case k4_NoText => k_is); (case k5_NoText => k_is); (case k6_NoText => k_is); (case a_YardError => k_is); (case kb_YardError => k_is); (case kd_YardError => k_is); (case kt_YardError => k_is); (case ki_YardError => k_is); (case ks_YardError => first | k_is | rfl); (case kp_NoText_NoText => first | k_is | rfl); (case kp_NoText_YardError => first | k_is | rfl); (case z_isinstance => k_is); (case z_int => k_is); (case z_bool => k_is); (case z_str => k_is); (case z_len => k_is); (case z_all => k_is); (case z_tuple => k_is); (case z_zip => k_is); (case z_list => k_is); (case z_range => k_is); (case z_sorted => k_is); (case z_set => k_is)
