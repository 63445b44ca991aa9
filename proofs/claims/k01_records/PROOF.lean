import PyProof.Rows.All
import Wide.All
import OpenK.AllK
import Wide.FinOn
import HandS.ForMost
import HandS.IsInst
import HandS.Walk
import HandS.Wide
import HandS.TupMul
import HandS.TupAny
import HandS.TupLe
import HandS.Style
import HandS.Star
import HandS.Zip
import HandS.Steps
import HandS.Deep
import Flt.Len
import PySem.Challenge.RW_batchyard_k01_records
set_option Elab.async false
set_option linter.all false
set_option maxRecDepth 100000
set_option maxHeartbeats 2000000
/-! what defs do to data: readings over a heap with lists of one's own laid over it -/
namespace DD
open PySem PySem.Spec PyProof.Rows L2

abbrev D := PyData
/-- lists of one's own -/
abbrev Ov := Addr → Option (List V)
def ov (H : Hp) (T : Ov) : Hp := fun a => match T a with
  | some xs => some (.lst xs)
  | none => H a
def Dis (H : Hp) (T : Ov) : Prop := ∀ a xs, T a = some xs → H a = none
def Ext (T0 T : Ov) : Prop := ∀ a xs, T0 a = some xs → T a = some xs
def put (T : Ov) (p : Addr) (xs : List V) : Ov := fun a => if a = p then some xs else T a
def cut (T : Ov) (p : Addr) : Ov := fun a => if a = p then none else T a

theorem ov_own {H : Hp} {T : Ov} {a : Addr} {xs : List V} (h : T a = some xs) : ov H T a = some (.lst xs) := by
  unfold ov; rw [h]
theorem ov_none {H : Hp} {T : Ov} {a : Addr} (h : T a = none) : ov H T a = H a := by
  unfold ov; rw [h]
theorem ov_free {H : Hp} {T : Ov} {a : Addr} (h : ov H T a = none) : T a = none ∧ H a = none := by
  cases e : T a with
  | none => rw [ov_none e] at h; exact ⟨rfl, h⟩
  | some xs => rw [ov_own e] at h; cases h
/-- all that H knows stays under T -/
theorem same_ov {H : Hp} {T : Ov} (d : Dis H T) : Same H (ov H T) := fun a o h => by
  cases e : T a with
  | none => rw [ov_none e]; exact h
  | some xs => have := d a xs e; rw [h] at this; cases this
theorem upd_ov {H : Hp} {T : Ov} {p : Addr} {o : HO} (h : T p = none) : upd (ov H T) p o = ov (upd H p o) T := by
  funext a
  by_cases e : a = p
  · subst e; rw [upd_same, ov_none h, upd_same]
  · rw [upd_ne e]
    cases q : T a with
    | none => rw [ov_none q, ov_none q, upd_ne e]
    | some xs => rw [ov_own q, ov_own q]
theorem upd_put {H : Hp} {T : Ov} {p : Addr} {xs : List V} : upd (ov H T) p (.lst xs) = ov H (put T p xs) := by
  funext a
  by_cases e : a = p
  · subst e
    have : put T a xs a = some xs := by unfold put; rw [if_pos rfl]
    rw [upd_same, ov_own this]
  · have : put T p xs a = T a := by unfold put; rw [if_neg e]
    rw [upd_ne e]
    unfold ov
    rw [this]
theorem put_same {T : Ov} {p : Addr} {xs : List V} : put T p xs p = some xs := by unfold put; rw [if_pos rfl]
theorem put_ne {T : Ov} {p a : Addr} {xs : List V} (h : a ≠ p) : put T p xs a = T a := by unfold put; rw [if_neg h]
theorem same_new {H : Hp} {p : Addr} {o : HO} (h : H p = none) : Same H (upd H p o) := fun b x e => by
  rw [upd_ne (ne_of_none e h)]; exact e
theorem dis_upd {H : Hp} {T : Ov} {p : Addr} {o : HO} (d : Dis H T) (h : T p = none) : Dis (upd H p o) T := fun a xs e => by
  have : a ≠ p := fun z => by rw [z, h] at e; cases e
  rw [upd_ne this]; exact d a xs e
theorem dis_put {H : Hp} {T : Ov} {p : Addr} {xs : List V} (d : Dis H T) (h : H p = none) : Dis H (put T p xs) := fun a ys e => by
  by_cases q : a = p
  · rw [q]; exact h
  · rw [put_ne q] at e; exact d a ys e
/-- a list of one's own becomes one that is known -/
theorem ov_freeze {H : Hp} {T : Ov} {p : Addr} {xs : List V} (h : T p = some xs) : ov H T = ov (upd H p (.lst xs)) (cut T p) := by
  funext a
  by_cases e : a = p
  · subst e
    have : cut T a a = none := by unfold cut; rw [if_pos rfl]
    rw [ov_own h, ov_none this, upd_same]
  · have : cut T p a = T a := by unfold cut; rw [if_neg e]
    unfold ov
    rw [this]
    cases q : T a with
    | none => exact (upd_ne e).symm
    | some ys => rfl

/-! ### data -/
theorem Same.sqt {K : PySem.W.Frag} {H H' : Hp} {a : Addr} {xs : List V} (e : Same H H') (h : SqT K H a xs) : SqT K H' a xs := by
  rcases h with (h | ⟨o, h⟩) | h
  · exact .inl (.inl (e _ _ h))
  · exact .inl (.inr ⟨o, e _ _ h⟩)
  · exact .inr h
mutual
theorem dp_mono {K : PySem.W.Frag} {H H' : Hp} (e : Same H H') : ∀ {v : V} {d : D}, Dp K H v d → Dp K H' v d
  | _, _, .non => .non
  | _, _, .bl b => .bl b
  | _, _, .int i => .int i
  | _, _, .str x => .str x
  | _, _, .lst h t => .lst (e.seq h) (dpa_mono e t)
  | _, _, .tup h t => .tup (Same.sqt e h) (dpa_mono e t)
theorem dpa_mono {K : PySem.W.Frag} {H H' : Hp} (e : Same H H') : ∀ {vs : List V} {ds : List D}, DpAll K H vs ds → DpAll K H' vs ds
  | _, _, .nil => .nil
  | _, _, .cons h t => .cons (dp_mono e h) (dpa_mono e t)
end
theorem dpa_len {K : PySem.W.Frag} {H : Hp} : ∀ {vs : List V} {ds : List D}, DpAll K H vs ds → vs.length = ds.length
  | _, _, .nil => rfl
  | _, _, .cons _ t => by rw [List.length_cons, List.length_cons, dpa_len t]
theorem dpa_get {K : PySem.W.Frag} {H : Hp} : ∀ {vs : List V} {ds : List D}, DpAll K H vs ds → ∀ {i : Nat} {d : D}, ds[i]? = some d → ∃ v, vs[i]? = some v ∧ Dp K H v d
  | _, _, .nil, i, d, h => by simp at h
  | _, _, .cons h t, 0, d, e => by
    simp at e; subst e; exact ⟨_, rfl, h⟩
  | _, _, .cons h t, i + 1, d, e => by
    obtain ⟨v, q, r⟩ := dpa_get t (i := i) (by simpa using e)
    exact ⟨v, by simpa using q, r⟩
theorem dpa_append {K : PySem.W.Frag} {H : Hp} : ∀ {vs ws : List V} {ds es : List D}, DpAll K H vs ds → DpAll K H ws es → DpAll K H (vs ++ ws) (ds ++ es)
  | _, _, _, _, .nil, s => s
  | _, _, _, _, .cons h t, s => .cons h (dpa_append t s)
theorem dpa_take {K : PySem.W.Frag} {H : Hp} : ∀ {vs : List V} {ds : List D} (n : Nat), DpAll K H vs ds → DpAll K H (vs.take n) (ds.take n)
  | _, _, 0, _ => .nil
  | _, _, _ + 1, .nil => .nil
  | _, _, n + 1, .cons h t => .cons h (dpa_take n t)
theorem dpa_drop {K : PySem.W.Frag} {H : Hp} : ∀ {vs : List V} {ds : List D} (n : Nat), DpAll K H vs ds → DpAll K H (vs.drop n) (ds.drop n)
  | _, _, 0, h => h
  | _, _, _ + 1, .nil => .nil
  | _, _, n + 1, .cons _ t => dpa_drop n t
theorem dpa_rep {K : PySem.W.Frag} {H : Hp} {vs : List V} {ds : List D} (h : DpAll K H vs ds) : ∀ n : Nat, DpAll K H (List.replicate n vs).flatten (List.replicate n ds).flatten
  | 0 => .nil
  | n + 1 => by
    rw [List.replicate_succ, List.replicate_succ, List.flatten_cons, List.flatten_cons]
    exact dpa_append h (dpa_rep h n)
theorem dpa_ints {K : PySem.W.Frag} {H : Hp} : ∀ ns : List Int, DpAll K H (ns.map V.int) (ns.map PyData.int)
  | [] => .nil
  | n :: r => .cons (.int n) (dpa_ints r)
theorem dpa_snoc {K : PySem.W.Frag} {H : Hp} {vs : List V} {ds : List D} {v : V} {d : D} (h : DpAll K H vs ds) (g : Dp K H v d) : DpAll K H (vs ++ [v]) (ds ++ [d]) := dpa_append h (.cons g .nil)
theorem dpa_nil_iff {K : PySem.W.Frag} {H : Hp} {vs : List V} {ds : List D} (h : DpAll K H vs ds) : ds = [] ↔ vs = [] := by
  cases h with
  | nil => exact Iff.intro (fun _ => rfl) (fun _ => rfl)
  | cons _ _ => exact Iff.intro (fun z => nomatch z) (fun z => nomatch z)

/-! ### slots -/
inductive Sl where
  | val (d : D)
  | own (ds : List D)
abbrev En := List (Option Sl)

/-- where one stands in a def: H0, T0 what the caller has -/
structure Good (K : PySem.W.Frag) (H0 : Hp) (T0 : Ov) (σ : L2.St) (ρ : En) (H : Hp) (T : Ov) : Prop where
  len : ρ.length = σ.length
  val : ∀ (i : Nat) (d : D), ρ[i]? = some (some (Sl.val d)) → ∃ v, σ[i]? = some (some v) ∧ Dp K H v d
  own : ∀ (i : Nat) (ds : List D), ρ[i]? = some (some (Sl.own ds)) → ∃ p xs, σ[i]? = some (some (.ref p)) ∧ T p = some xs ∧ T0 p = none ∧ DpAll K H xs ds
  inj : ∀ (i j : Nat) (ds es : List D) (p : Addr), ρ[i]? = some (some (Sl.own ds)) → ρ[j]? = some (some (Sl.own es)) → σ[i]? = some (some (.ref p)) → σ[j]? = some (some (.ref p)) → i = j
  dis : Dis H T
  ext : Ext T0 T
  ex : Same H0 H
section
variable {K : PySem.W.Frag} {H0 H H' : Hp} {T0 T : Ov} {σ : L2.St} {ρ : En}
theorem Good.mono (G : Good K H0 T0 σ ρ H T) (e : Same H H') (d : Dis H' T) : Good K H0 T0 σ ρ H' T :=
  ⟨G.len, fun i x h => let ⟨v, a, b⟩ := G.val i x h; ⟨v, a, dp_mono e b⟩, fun i x h => let ⟨p, xs, a, b, c, f⟩ := G.own i x h; ⟨p, xs, a, b, c, dpa_mono e f⟩, G.inj, d, G.ext, G.ex.trans e⟩
theorem get_set {α : Type} {l : List α} {i j : Nat} {x : α} {y : α} (h : (l.set i x)[j]? = some y) : (j = i ∧ y = x ∧ i < l.length) ∨ (j ≠ i ∧ l[j]? = some y) := by
  by_cases e : j = i
  · subst e
    by_cases q : j < l.length
    · rw [List.getElem?_set_self q] at h
      exact .inl ⟨rfl, (Option.some.inj h).symm, q⟩
    · rw [List.getElem?_eq_none (by simpa using q)] at h; cases h
  · rw [List.getElem?_set_ne (Ne.symm e)] at h
    exact .inr ⟨e, h⟩
theorem set_self {α : Type} {l : List α} {i : Nat} {x : α} (h : i < l.length) : (l.set i x)[i]? = some x := List.getElem?_set_self h
/-- a slot gets a value -/
theorem Good.set {i : Nat} {v : V} {d : D} (G : Good K H0 T0 σ ρ H T) (g : Dp K H v d) : Good K H0 T0 (σ.set i (some v)) (ρ.set i (some (Sl.val d))) H T := by
  refine ⟨by rw [List.length_set, List.length_set]; exact G.len, fun j x h => ?_, fun j x h => ?_, fun j k ds es p h1 h2 h3 h4 => ?_, G.dis, G.ext, G.ex⟩
  · rcases get_set h with ⟨e, q, l⟩ | ⟨e, q⟩
    · subst e
      cases q
      exact ⟨v, set_self (by rw [← G.len]; exact l), g⟩
    · obtain ⟨w, a, b⟩ := G.val j x q
      exact ⟨w, by rw [List.getElem?_set_ne (Ne.symm e)]; exact a, b⟩
  · rcases get_set h with ⟨e, q, l⟩ | ⟨e, q⟩
    · cases q
    · obtain ⟨p, xs, a, b⟩ := G.own j x q
      exact ⟨p, xs, by rw [List.getElem?_set_ne (Ne.symm e)]; exact a, b⟩
  · rcases get_set h1 with ⟨_, q, _⟩ | ⟨e1, q1⟩
    · cases q
    · rcases get_set h2 with ⟨_, q, _⟩ | ⟨e2, q2⟩
      · cases q
      · rw [List.getElem?_set_ne (Ne.symm e1)] at h3
        rw [List.getElem?_set_ne (Ne.symm e2)] at h4
        exact G.inj j k ds es p q1 q2 h3 h4
/-- a slot gets a new list of one's own -/
theorem Good.setOwn {i : Nat} {p : Addr} {xs : List V} {ds : List D} (G : Good K H0 T0 σ ρ H T) (g : DpAll K H xs ds) (hp : ov H T p = none) :
    Good K H0 T0 (σ.set i (some (.ref p))) (ρ.set i (some (Sl.own ds))) H (put T p xs) := by
  obtain ⟨hT, hH⟩ := ov_free hp
  have h0 : T0 p = none := by
    cases e : T0 p with
    | none => rfl
    | some ys => have := G.ext p ys e; rw [hT] at this; cases this
  have ne : ∀ a ys, T a = some ys → a ≠ p := fun a ys e z => by rw [z, hT] at e; cases e
  refine ⟨by rw [List.length_set, List.length_set]; exact G.len, fun j x h => ?_, fun j x h => ?_, fun j k ds es q h1 h2 h3 h4 => ?_, dis_put G.dis hH, fun a ys e => ?_, G.ex⟩
  · rcases get_set h with ⟨e, q, l⟩ | ⟨e, q⟩
    · cases q
    · obtain ⟨w, a, b⟩ := G.val j x q
      exact ⟨w, by rw [List.getElem?_set_ne (Ne.symm e)]; exact a, b⟩
  · rcases get_set h with ⟨e, q, l⟩ | ⟨e, q⟩
    · cases q
      subst e
      exact ⟨p, xs, set_self (by rw [← G.len]; exact l), put_same, h0, g⟩
    · obtain ⟨r, ys, a, b, c⟩ := G.own j x q
      exact ⟨r, ys, by rw [List.getElem?_set_ne (Ne.symm e)]; exact a, by rw [put_ne (ne r ys b)]; exact b, c⟩
  · rcases get_set h1 with ⟨e1, q1, l1⟩ | ⟨e1, q1⟩
    · rcases get_set h2 with ⟨e2, q2, l2⟩ | ⟨e2, q2⟩
      · rw [e1, e2]
      · subst e1
        rw [set_self (by rw [← G.len]; exact l1)] at h3
        cases h3
        rw [List.getElem?_set_ne (Ne.symm e2)] at h4
        obtain ⟨r, ys, a, b, _⟩ := G.own k es q2
        rw [h4] at a
        cases a
        exact absurd rfl (ne _ ys b)
    · rcases get_set h2 with ⟨e2, q2, l2⟩ | ⟨e2, q2⟩
      · subst e2
        rw [set_self (by rw [← G.len]; exact l2)] at h4
        cases h4
        rw [List.getElem?_set_ne (Ne.symm e1)] at h3
        obtain ⟨r, ys, a, b, _⟩ := G.own j _ q1
        rw [h3] at a
        cases a
        exact absurd rfl (ne _ ys b)
      · rw [List.getElem?_set_ne (Ne.symm e1)] at h3
        rw [List.getElem?_set_ne (Ne.symm e2)] at h4
        exact G.inj j k _ es q q1 q2 h3 h4
  · rw [put_ne (ne a ys (G.ext a ys e))]
    exact G.ext a ys e
/-- a list of one's own turns -/
theorem Good.turn {i : Nat} {p : Addr} {xs ys : List V} {ds es : List D} (G : Good K H0 T0 σ ρ H T) (h : ρ[i]? = some (some (Sl.own ds))) (hs : σ[i]? = some (some (.ref p))) (ht : T p = some xs) (g : DpAll K H ys es) :
    Good K H0 T0 σ (ρ.set i (some (Sl.own es))) H (put T p ys) := by
  obtain ⟨p', xs', a, b, c, f⟩ := G.own i ds h
  rw [hs] at a
  cases a
  refine ⟨by rw [List.length_set]; exact G.len, fun j x q => ?_, fun j x q => ?_, fun j k as bs r h1 h2 h3 h4 => ?_, dis_put G.dis (G.dis p xs ht), fun a zs e => ?_, G.ex⟩
  · rcases get_set q with ⟨_, q, _⟩ | ⟨_, q⟩
    · cases q
    · exact G.val j x q
  · rcases get_set q with ⟨e, q, _⟩ | ⟨e, q⟩
    · cases q
      subst e
      exact ⟨p, ys, hs, put_same, c, g⟩
    · obtain ⟨r, zs, a, b, c⟩ := G.own j x q
      have : r ≠ p := fun z => e (G.inj j i x ds p q h (z ▸ a) hs)
      exact ⟨r, zs, a, by rw [put_ne this]; exact b, c⟩
  · have o1 : ∃ us, ρ[j]? = some (some (Sl.own us)) := by
      rcases get_set h1 with ⟨e, q, _⟩ | ⟨_, q⟩
      · exact ⟨ds, e ▸ h⟩
      · exact ⟨_, q⟩
    have o2 : ∃ us, ρ[k]? = some (some (Sl.own us)) := by
      rcases get_set h2 with ⟨e, q, _⟩ | ⟨_, q⟩
      · exact ⟨ds, e ▸ h⟩
      · exact ⟨_, q⟩
    obtain ⟨u1, o1⟩ := o1
    obtain ⟨u2, o2⟩ := o2
    exact G.inj j k u1 u2 r o1 o2 h3 h4
  · have : a ≠ p := fun z => by rw [z, c] at e; cases e
    rw [put_ne this]
    exact G.ext a zs e
def frz (i : Nat) (ρ : En) : En := match ρ[i]? with
  | some (some (Sl.own ds)) => ρ.set i (some (.val (.list ds)))
  | _ => ρ
/-- a list of one's own becomes a value -/
theorem Good.freeze (i : Nat) (G : Good K H0 T0 σ ρ H T) : ∃ H' T', Good K H0 T0 σ (frz i ρ) H' T' ∧ ov H T = ov H' T' ∧ Same H H' := by
  unfold frz
  split
  · rename_i ds h
    obtain ⟨p, xs, a, b, c, f⟩ := G.own i ds h
    have hp := G.dis p xs b
    have sm : Same H (upd H p (.lst xs)) := same_new hp
    have ne : ∀ r ys, T r = some ys → r ≠ p → cut T p r = some ys := fun r ys e q => by unfold cut; rw [if_neg q]; exact e
    refine ⟨upd H p (.lst xs), cut T p, ⟨by rw [List.length_set]; exact G.len, fun j x q => ?_, fun j x q => ?_, fun j k as bs r h1 h2 h3 h4 => ?_, fun r ys e => ?_, fun r ys e => ?_, G.ex.trans sm⟩, ov_freeze b, sm⟩
    · rcases get_set q with ⟨e, q, _⟩ | ⟨e, q⟩
      · cases q
        subst e
        exact ⟨.ref p, a, .lst (SqL.of upd_same) (dpa_mono sm f)⟩
      · obtain ⟨v, g, k⟩ := G.val j x q
        exact ⟨v, g, dp_mono sm k⟩
    · rcases get_set q with ⟨e, q, _⟩ | ⟨e, q⟩
      · cases q
      · obtain ⟨r, ys, g, k, l, m⟩ := G.own j x q
        exact ⟨r, ys, g, ne r ys k fun z => e (G.inj j i x ds p q h (z ▸ g) a), l, dpa_mono sm m⟩
    · rcases get_set h1 with ⟨_, q, _⟩ | ⟨_, q1⟩
      · cases q
      · rcases get_set h2 with ⟨_, q, _⟩ | ⟨_, q2⟩
        · cases q
        · exact G.inj j k as bs r q1 q2 h3 h4
    · unfold cut at e
      split at e
      · cases e
      · rename_i q
        rw [upd_ne q]
        exact G.dis r ys e
    · exact ne r ys (G.ext r ys e) fun z => by rw [z, c] at e; cases e
  · exact ⟨H, T, G, rfl, Same.refl H⟩
end
end DD

set_option Elab.async false
set_option linter.all false
set_option maxRecDepth 100000
set_option maxHeartbeats 2000000
namespace DD
open PySem PySem.Spec PyProof.Rows L2

inductive Fl where
  | nx (ρ : En)
  | rt (d : D)
  | bk (ρ : En)
  | ct (ρ : En)

section
variable (K : PySem.W.Frag)
structure ET (te : TE) (m : En → Option D) : Prop where
  run : ∀ {H0 : Hp} {T0 : Ov} {σ : L2.St} {ρ : En} {H : Hp} {T : Ov} {d : D}, Good K H0 T0 σ ρ H T → m ρ = some d →
    ∀ Q : VK, (∀ v H', Same H H' → Dis H' T → Dp K H' v d → Q v (ov H' T)) → te σ (ov H T) Q
structure FL (te : TE) (m : En → Option (List D)) : Prop where
  run : ∀ {H0 : Hp} {T0 : Ov} {σ : L2.St} {ρ : En} {H : Hp} {T : Ov} {ds : List D}, Good K H0 T0 σ ρ H T → m ρ = some ds →
    ∀ Q : VK, (∀ p xs H', Same H H' → Dis H' T → ov H' T p = none → DpAll K H' xs ds → Q (.ref p) (upd (ov H' T) p (.lst xs))) → te σ (ov H T) Q
structure TTm (tt : TT) (m : En → Option Bool) : Prop where
  run : ∀ {H0 : Hp} {T0 : Ov} {σ : L2.St} {ρ : En} {H : Hp} {T : Ov} {b : Bool}, Good K H0 T0 σ ρ H T → m ρ = some b →
    ∀ Q : Bool → Hp → Prop, (∀ H', Same H H' → Dis H' T → Q b (ov H' T)) → tt σ (ov H T) Q
structure TAm (ta : TA) (m : En → Option (List D)) : Prop where
  run : ∀ {H0 : Hp} {T0 : Ov} {σ : L2.St} {ρ : En} {H : Hp} {T : Ov} {ds : List D}, Good K H0 T0 σ ρ H T → m ρ = some ds →
    ∀ Q : List V → Hp → Prop, (∀ vs H', Same H H' → Dis H' T → DpAll K H' vs ds → Q vs (ov H' T)) → ta σ (ov H T) Q
structure RD (r : R2) (f : D → D → Option D) : Prop where
  run : ∀ {H : Hp} {T : Ov} {x y : V} {a b d : D}, Dis H T → Dp K H x a → Dp K H y b → f a b = some d →
    ∀ Q : VK, (∀ v H', Same H H' → Dis H' T → Dp K H' v d → Q v (ov H' T)) → r x y (ov H T) Q
structure UD (r : V → Hp → VK → Prop) (f : D → Option D) : Prop where
  run : ∀ {H : Hp} {T : Ov} {x : V} {a d : D}, Dis H T → Dp K H x a → f a = some d →
    ∀ Q : VK, (∀ v H', Same H H' → Dis H' T → Dp K H' v d → Q v (ov H' T)) → r x (ov H T) Q
structure CD (r : List V → Hp → VK → Prop) (f : List D → Option D) : Prop where
  run : ∀ {H : Hp} {T : Ov} {vs : List V} {ds : List D} {d : D}, Dis H T → DpAll K H vs ds → f ds = some d →
    ∀ Q : VK, (∀ v H', Same H H' → Dis H' T → Dp K H' v d → Q v (ov H' T)) → r vs (ov H T) Q
structure CL (r : List V → Hp → VK → Prop) (f : List D → Option (List D)) : Prop where
  run : ∀ {H : Hp} {T : Ov} {vs : List V} {ds es : List D}, Dis H T → DpAll K H vs ds → f ds = some es →
    ∀ Q : VK, (∀ p xs H', Same H H' → Dis H' T → ov H' T p = none → DpAll K H' xs es → Q (.ref p) (upd (ov H' T) p (.lst xs))) → r vs (ov H T) Q
/-- a target; vs: the slots that it may change -/
structure TGm (vs : List Nat) (g : TG) (m : D → En → Option En) : Prop where
  run : ∀ {H0 : Hp} {T0 : Ov} {σ : L2.St} {ρ ρ2 : En} {H : Hp} {T : Ov} {v : V} {d : D}, Good K H0 T0 σ ρ H T → Dp K H v d → m d ρ = some ρ2 →
    ∀ Q : L2.St → Hp → Prop, (∀ σ2 H', Good K H0 T0 σ2 ρ2 H' T → Same H H' → wipe σ2 vs = wipe σ vs → Q σ2 (ov H' T)) → g v σ (ov H T) Q
structure TGsm (vs : List Nat) (g : TGs) (m : List D → En → Option En) : Prop where
  run : ∀ {H0 : Hp} {T0 : Ov} {σ : L2.St} {ρ ρ2 : En} {H : Hp} {T : Ov} {xs : List V} {ds : List D}, Good K H0 T0 σ ρ H T → DpAll K H xs ds → m ds ρ = some ρ2 →
    ∀ Q : L2.St → Hp → Prop, (∀ σ2 H', Good K H0 T0 σ2 ρ2 H' T → Same H H' → wipe σ2 vs = wipe σ vs → Q σ2 (ov H' T)) → g xs σ (ov H T) Q
/-- what is walked: the data that come -/
structure Wk (J : It) (Hm : Hp) (ds : List D) : Prop where
  go : ∀ {H : Hp} {T : Ov} (i : Nat), Same Hm H → Dis H T → i < ds.length → J.go i (ov H T)
  stop : ∀ {H : Hp} {T : Ov}, Same Hm H → Dis H T → J.stop ds.length (ov H T)
  yld : ∀ {H : Hp} {T : Ov} (i : Nat) {x : V} {Hc : Hp} {d : D}, Same Hm H → Dis H T → ds[i]? = some d → J.yld i (ov H T) x Hc → ∃ H2, Hc = ov H2 T ∧ Same H H2 ∧ Dis H2 T ∧ Dp K H2 x d
structure IT (wi : TI) (m : En → Option (List D)) : Prop where
  run : ∀ {H0 : Hp} {T0 : Ov} {σ : L2.St} {ρ : En} {H : Hp} {T : Ov} {ds : List D}, Good K H0 T0 σ ρ H T → m ρ = some ds →
    ∀ R : It → Hp → Prop, (∀ J H', Same H H' → Dis H' T → Wk K J H' ds → R J (ov H' T)) → wi σ (ov H T) R
def FlOk (H0 : Hp) (T0 : Ov) (E : Ends) : Fl → Prop
  | .nx ρ => ∀ σ H T, Good K H0 T0 σ ρ H T → E.nx σ (ov H T)
  | .bk ρ => ∀ σ H T, Good K H0 T0 σ ρ H T → E.bk σ (ov H T)
  | .ct ρ => ∀ σ H T, Good K H0 T0 σ ρ H T → E.ct σ (ov H T)
  | .rt d => ∀ v H T, Same H0 H → Dis H T → Ext T0 T → Dp K H v d → E.rt v (ov H T)
structure TSm (t : TS) (m : En → Option Fl) : Prop where
  run : ∀ {H0 : Hp} {T0 : Ov} {σ : L2.St} {ρ : En} {H : Hp} {T : Ov} {f : Fl}, Good K H0 T0 σ ρ H T → m ρ = some f → ∀ E : Ends, FlOk K H0 T0 E f → t E σ (ov H T)
/-- a def's promise by its mirror -/
def spM (n : Nat) (m : List D → Option D) : Sp := fun vs Hx Q _ => ∃ ds d H T, DpAll K H vs ds ∧ ds.length = n ∧ m ds = some d ∧ Hx = ov H T ∧ Dis H T ∧ ∀ v H', Same H H' → Dis H' T → Dp K H' v d → Q v (ov H' T)
end

/-! ### mirrors of expressions -/
def mVar (i : Nat) : En → Option D := fun ρ => match ρ[i]? with
  | some (some (.val d)) => some d
  | _ => none
def mC (d : D) : En → Option D := fun _ => some d
def mOp (f : D → D → Option D) (a b : En → Option D) : En → Option D := fun ρ => (a ρ).bind fun x => (b ρ).bind fun y => f x y
def mUn (f : D → Option D) (a : En → Option D) : En → Option D := fun ρ => (a ρ).bind f
def mList (a : En → Option (List D)) : En → Option D := fun ρ => (a ρ).map PyData.list
def mNil : En → Option (List D) := fun _ => some []
def mCons (a : En → Option D) (b : En → Option (List D)) : En → Option (List D) := fun ρ => (a ρ).bind fun x => (b ρ).map fun y => x :: y
def cap : Nat := 100000
def sized (ds : List D) : Option (List D) := if ds.length ≤ cap then some ds else none
def mTup (a : En → Option (List D)) : En → Option D := fun ρ => (a ρ).bind fun x => (sized x).map PyData.tuple
def mLst (a : En → Option (List D)) : En → Option (List D) := fun ρ => (a ρ).bind sized
def mCall (f : List D → Option D) (a : En → Option (List D)) : En → Option D := fun ρ => (a ρ).bind f
def mCallL (f : List D → Option (List D)) (a : En → Option (List D)) : En → Option (List D) := fun ρ => (a ρ).bind f
def isB : D → Option Bool
  | .bool b => some b
  | _ => none
def mTest (a : En → Option D) : En → Option Bool := fun ρ => (a ρ).bind isB
def mAnd (a b : En → Option Bool) : En → Option Bool := fun ρ => (a ρ).bind fun x => if x = true then b ρ else some false
def mOr (a b : En → Option Bool) : En → Option Bool := fun ρ => (a ρ).bind fun x => if x = true then some true else b ρ
def mNot (a : En → Option Bool) : En → Option Bool := fun ρ => (a ρ).map (!·)
def mAndV (a b : En → Option D) : En → Option D := fun ρ => (a ρ).bind fun x => (isB x).bind fun c => if c = true then b ρ else some (.bool false)
def mOrV (a b : En → Option D) : En → Option D := fun ρ => (a ρ).bind fun x => (isB x).bind fun c => if c = true then some (.bool true) else b ρ
def mNotV (a : En → Option D) : En → Option D := fun ρ => (a ρ).bind fun x => (isB x).map fun c => .bool (!c)
def mIfE (c : En → Option Bool) (a b : En → Option D) : En → Option D := fun ρ => (c ρ).bind fun x => if x = true then a ρ else b ρ
def mChain (f g : D → D → Option D) (a b c : En → Option D) : En → Option D := fun ρ => (a ρ).bind fun x => (b ρ).bind fun y => (f x y).bind fun z => (isB z).bind fun k => if k = true then (c ρ).bind fun w => g y w else some (.bool false)

section
variable {K : PySem.W.Frag} {ta tb tc te : TE} {ma mb mc : En → Option D} {r r' : R2} {f g : D → D → Option D}
theorem bind_some {α β : Type} {o : Option α} {k : α → Option β} {b : β} (h : o.bind k = some b) : ∃ a, o = some a ∧ k a = some b := by
  cases o with
  | none => cases h
  | some a => exact ⟨a, rfl, h⟩
theorem map_some {α β : Type} {o : Option α} {k : α → β} {b : β} (h : o.map k = some b) : ∃ a, o = some a ∧ k a = b := by
  cases o with
  | none => cases h
  | some a => exact ⟨a, rfl, Option.some.inj h⟩
theorem sized_some {ds es : List D} (h : sized ds = some es) : es = ds ∧ ds.length ≤ cap := by
  unfold sized at h
  split at h
  · exact ⟨(Option.some.inj h).symm, by assumption⟩
  · cases h
theorem cap_line {n : Nat} (h : n ≤ cap) : n ≤ sizeLine := Nat.le_trans h (by decide)
theorem cap_lt {n : Nat} (h : n ≤ cap) : n < sizeLine := Nat.lt_of_le_of_lt h (by decide)
theorem isB_some {d : D} {b : Bool} (h : isB d = some b) : d = .bool b := by
  cases d <;> simp [isB] at h
  subst h; rfl
theorem dp_bool {H : Hp} {v : V} {b : Bool} (h : Dp K H v (.bool b)) : v = .bl b := by cases h; rfl

theorem ev_var (i : Nat) : ET K (tVar i) (mVar i) := by
  refine ⟨fun {H0 T0 σ ρ H T d} G h Q q => ?_⟩
  unfold mVar at h
  split at h
  · rename_i x e
    cases h
    obtain ⟨v, a, b⟩ := G.val i d e
    exact ⟨v, a, q v H (Same.refl H) G.dis b⟩
  · cases h
theorem ev_c {v : V} {d : D} (h : ∀ H, Dp K H v d) : ET K (tC v) (mC d) := by
  refine ⟨fun {H0 T0 σ ρ H T e} G hh Q q => ?_⟩
  cases hh
  exact q v H (Same.refl H) G.dis (h H)
theorem ev_int {i : Int} : ET K (tC (.int i)) (mC (.int i)) := ev_c fun _ => .int i
theorem ev_str {x : Str} : ET K (tC (.str x)) (mC (.str x)) := ev_c fun _ => .str x
theorem ev_bl {b : Bool} : ET K (tC (.bl b)) (mC (.bool b)) := ev_c fun _ => .bl b
theorem ev_non : ET K (tC .non) (mC .none) := ev_c fun _ => .non
theorem ev_op (hr : RD K r f) (ha : ET K ta ma) (hb : ET K tb mb) : ET K (tOp r ta tb) (mOp f ma mb) := by
  refine ⟨fun {H0 T0 σ ρ H T d} G h Q q => ?_⟩
  obtain ⟨x, hx, h⟩ := bind_some h
  obtain ⟨y, hy, h⟩ := bind_some h
  refine ha.run G hx _ fun v H1 s1 d1 p1 => ?_
  refine hb.run (G.mono s1 d1) hy _ fun u H2 s2 d2 p2 => ?_
  exact hr.run d2 (dp_mono s2 p1) p2 h Q fun w H3 s3 d3 p3 => q w H3 ((s1.trans s2).trans s3) d3 p3
theorem ev_un {ru : V → Hp → VK → Prop} {fu : D → Option D} (hr : UD K ru fu) (ha : ET K ta ma) : ET K (tUn ru ta) (mUn fu ma) := by
  refine ⟨fun {H0 T0 σ ρ H T d} G h Q q => ?_⟩
  obtain ⟨x, hx, h⟩ := bind_some h
  refine ha.run G hx _ fun v H1 s1 d1 p1 => ?_
  exact hr.run d1 p1 h Q fun w H3 s3 d3 p3 => q w H3 (s1.trans s3) d3 p3
theorem ev_chain (hr : RD K r f) (hr' : RD K r' g) (ha : ET K ta ma) (hb : ET K tb mb) (hc : ET K tc mc) : ET K (tChain r r' ta tb tc) (mChain f g ma mb mc) := by
  refine ⟨fun {H0 T0 σ ρ H T d} G h Q q => ?_⟩
  obtain ⟨x, hx, h1⟩ := bind_some h
  obtain ⟨y, hy, h2⟩ := bind_some h1
  obtain ⟨z, hz, h3⟩ := bind_some h2
  obtain ⟨k, hk, h4⟩ := bind_some h3
  clear h h1 h2 h3
  obtain rfl := isB_some hk
  refine ha.run G hx _ fun v H1 s1 d1 p1 => ?_
  refine hb.run (G.mono s1 d1) hy _ fun u H2 s2 d2 p2 => ?_
  refine hr.run d2 (dp_mono s2 p1) p2 hz _ fun w H3 s3 d3 p3 => ?_
  cases dp_bool p3
  refine ⟨k, rfl, ?_⟩
  have G3 := (G.mono s1 d1).mono (s2.trans s3) d3
  cases k with
  | true =>
    rw [if_pos rfl] at h4 ⊢
    obtain ⟨w', hw, h5⟩ := bind_some h4
    refine hc.run G3 hw _ fun u4 H4 s4 d4 p4 => ?_
    exact hr'.run d4 (dp_mono (s3.trans s4) p2) p4 h5 Q fun w5 H5 s5 d5 p5 => q w5 H5 ((s1.trans s2).trans ((s3.trans s4).trans s5)) d5 p5
  | false =>
    rw [if_neg Bool.false_ne_true] at h4 ⊢
    cases h4
    exact q _ H3 ((s1.trans s2).trans s3) d3 (.bl false)
theorem ev_list (h : FL K te (m : En → Option (List D))) : ET K te (mList m) := by
  refine ⟨fun {H0 T0 σ ρ H T d} G hh Q q => ?_⟩
  obtain ⟨ds, hd, e⟩ := map_some hh
  subst e
  refine h.run G hd Q fun p xs H' s1 d1 n1 p1 => ?_
  obtain ⟨nT, nH⟩ := ov_free n1
  rw [upd_ov nT]
  exact q _ _ (s1.trans (same_new nH)) (dis_upd d1 nT) (.lst (SqL.of upd_same) (dpa_mono (same_new nH) p1))
theorem ea_nil : TAm K tNil mNil := ⟨fun {H0 T0 σ ρ H T ds} G h Q q => by cases h; exact q [] H (Same.refl H) G.dis .nil⟩
theorem ea_cons {tr : TA} {mr : En → Option (List D)} (ha : ET K ta ma) (hr : TAm K tr mr) : TAm K (tCons ta tr) (mCons ma mr) := by
  refine ⟨fun {H0 T0 σ ρ H T ds} G h Q q => ?_⟩
  obtain ⟨x, hx, h⟩ := bind_some h
  obtain ⟨y, hy, e⟩ := map_some h
  subst e
  refine ha.run G hx _ fun v H1 s1 d1 p1 => ?_
  exact hr.run (G.mono s1 d1) hy _ fun vs H2 s2 d2 p2 => q _ H2 (s1.trans s2) d2 (.cons (dp_mono s2 p1) p2)
theorem ev_tup {t : TA} {m : En → Option (List D)} (ha : TAm K t m) : ET K (tTup t) (mTup m) := by
  refine ⟨fun {H0 T0 σ ρ H T d} G h Q q => ?_⟩
  obtain ⟨x, hx, h⟩ := bind_some h
  obtain ⟨y, hy, e⟩ := map_some h
  subst e
  obtain ⟨rfl, hz⟩ := sized_some hy
  refine ha.run G hx _ fun vs H1 s1 d1 p1 => ?_
  refine ⟨cap_line (by rw [dpa_len p1]; exact hz), fun p np => ?_⟩
  obtain ⟨nT, nH⟩ := ov_free np
  rw [upd_ov nT]
  exact q _ _ (s1.trans (same_new nH)) (dis_upd d1 nT) (.tup (SqT.of upd_same) (dpa_mono (same_new nH) p1))
theorem fl_lst {t : TA} {m : En → Option (List D)} (ha : TAm K t m) : FL K (tLst t) (mLst m) := by
  refine ⟨fun {H0 T0 σ ρ H T d} G h Q q => ?_⟩
  obtain ⟨x, hx, h⟩ := bind_some h
  obtain ⟨rfl, hz⟩ := sized_some h
  refine ha.run G hx _ fun vs H1 s1 d1 p1 => ?_
  exact ⟨cap_line (by rw [dpa_len p1]; exact hz), fun p np => q p vs H1 s1 d1 np p1⟩
theorem ev_cb {rc : List V → Hp → VK → Prop} {fc : List D → Option D} {t : TA} {m : En → Option (List D)} (hc : CD K rc fc) (ha : TAm K t m) : ET K (tCB rc t) (mCall fc m) := by
  refine ⟨fun {H0 T0 σ ρ H T d} G h Q q => ?_⟩
  obtain ⟨x, hx, h⟩ := bind_some h
  refine ha.run G hx _ fun vs H1 s1 d1 p1 => ?_
  exact hc.run d1 p1 h Q fun w H3 s3 d3 p3 => q w H3 (s1.trans s3) d3 p3
theorem fl_cb {rc : List V → Hp → VK → Prop} {fc : List D → Option (List D)} {t : TA} {m : En → Option (List D)} (hc : CL K rc fc) (ha : TAm K t m) : FL K (tCB rc t) (mCallL fc m) := by
  refine ⟨fun {H0 T0 σ ρ H T d} G h Q q => ?_⟩
  obtain ⟨x, hx, h⟩ := bind_some h
  refine ha.run G hx _ fun vs H1 s1 d1 p1 => ?_
  exact hc.run d1 p1 h Q fun p xs H3 s3 d3 n3 p3 => q p xs H3 (s1.trans s3) d3 n3 p3
theorem ev_call {n : Nat} {mf : List D → Option D} {t : TA} {m : En → Option (List D)} {E : XK} (ha : TAm K t m) : ET K (tCall (spM K n mf) [] E t) (mCall (fun ds => if ds.length = n then mf ds else none) m) := by
  refine ⟨fun {H0 T0 σ ρ H T d} G h Q q => ?_⟩
  obtain ⟨x, hx, h⟩ := bind_some h
  refine ha.run G hx _ fun vs H1 s1 d1 p1 => ?_
  split at h
  · rename_i hn
    rw [List.append_nil]
    exact ⟨x, d, H1, T, p1, hn, h, rfl, d1, fun w H3 s3 d3 p3 => q w H3 (s1.trans s3) d3 p3⟩
  · cases h

/-! ### tests -/
variable {t u : TT} {m1 m2 : En → Option Bool}
theorem et_test (h : ET K ta ma) : TTm K (tTest ta) (mTest ma) := by
  refine ⟨fun {H0 T0 σ ρ H T b} G hh Q q => ?_⟩
  obtain ⟨x, hx, hb⟩ := bind_some hh
  obtain rfl := isB_some hb
  exact h.run G hx _ fun v H1 s1 d1 p1 => ⟨b, dp_bool p1, q H1 s1 d1⟩
theorem et_B (h : ET K ta ma) : TTm K (tB ta) (mTest ma) := by
  refine ⟨fun {H0 T0 σ ρ H T b} G hh Q q => ?_⟩
  obtain ⟨x, hx, hb⟩ := bind_some hh
  obtain rfl := isB_some hb
  exact h.run G hx _ fun v H1 s1 d1 p1 => ⟨b, dp_bool p1, q H1 s1 d1⟩
theorem et_and (h1 : TTm K t m1) (h2 : TTm K u m2) : TTm K (tAnd t u) (mAnd m1 m2) := by
  refine ⟨fun {H0 T0 σ ρ H T b} G hh Q q => ?_⟩
  obtain ⟨x, hx, hb⟩ := bind_some hh
  refine h1.run G hx _ fun H1 s1 d1 => ?_
  cases x with
  | true =>
    rw [if_pos rfl] at hb ⊢
    exact h2.run (G.mono s1 d1) hb _ fun H2 s2 d2 => q H2 (s1.trans s2) d2
  | false =>
    rw [if_neg Bool.false_ne_true] at hb ⊢
    cases hb
    exact q H1 s1 d1
theorem et_or (h1 : TTm K t m1) (h2 : TTm K u m2) : TTm K (tOr t u) (mOr m1 m2) := by
  refine ⟨fun {H0 T0 σ ρ H T b} G hh Q q => ?_⟩
  obtain ⟨x, hx, hb⟩ := bind_some hh
  refine h1.run G hx _ fun H1 s1 d1 => ?_
  cases x with
  | true =>
    rw [if_pos rfl] at hb ⊢
    cases hb
    exact q H1 s1 d1
  | false =>
    rw [if_neg Bool.false_ne_true] at hb ⊢
    exact h2.run (G.mono s1 d1) hb _ fun H2 s2 d2 => q H2 (s1.trans s2) d2
theorem et_not (h1 : TTm K t m1) : TTm K (tNot t) (mNot m1) := by
  refine ⟨fun {H0 T0 σ ρ H T b} G hh Q q => ?_⟩
  obtain ⟨x, hx, hb⟩ := map_some hh
  subst hb
  exact h1.run G hx _ fun H1 s1 d1 => q H1 s1 d1
theorem ev_andV (ha : ET K ta ma) (hb : ET K tb mb) : ET K (tAndV ta tb) (mAndV ma mb) := by
  refine ⟨fun {H0 T0 σ ρ H T d} G h Q q => ?_⟩
  obtain ⟨x, hx, h1⟩ := bind_some h
  obtain ⟨k, hk, h2⟩ := bind_some h1
  clear h h1
  rename _ => h
  obtain rfl := isB_some hk
  refine ha.run G hx _ fun v H1 s1 d1 p1 => ⟨k, dp_bool p1, ?_⟩
  cases k with
  | true =>
    rw [if_pos rfl] at h ⊢
    exact hb.run (G.mono s1 d1) h _ fun u H2 s2 d2 p2 => q u H2 (s1.trans s2) d2 p2
  | false =>
    rw [if_neg Bool.false_ne_true] at h ⊢
    cases h
    exact q _ H1 s1 d1 (.bl false)
theorem ev_orV (ha : ET K ta ma) (hb : ET K tb mb) : ET K (tOrV ta tb) (mOrV ma mb) := by
  refine ⟨fun {H0 T0 σ ρ H T d} G h Q q => ?_⟩
  obtain ⟨x, hx, h1⟩ := bind_some h
  obtain ⟨k, hk, h2⟩ := bind_some h1
  clear h h1
  rename _ => h
  obtain rfl := isB_some hk
  refine ha.run G hx _ fun v H1 s1 d1 p1 => ⟨k, dp_bool p1, ?_⟩
  cases k with
  | true =>
    rw [if_pos rfl] at h ⊢
    cases h
    exact q _ H1 s1 d1 (.bl true)
  | false =>
    rw [if_neg Bool.false_ne_true] at h ⊢
    exact hb.run (G.mono s1 d1) h _ fun u H2 s2 d2 p2 => q u H2 (s1.trans s2) d2 p2
theorem ev_notV (ha : ET K ta ma) : ET K (tNotV ta) (mNotV ma) := by
  refine ⟨fun {H0 T0 σ ρ H T d} G h Q q => ?_⟩
  obtain ⟨x, hx, h1⟩ := bind_some h
  obtain ⟨k, hk, h2⟩ := map_some h1
  clear h h1
  subst h2
  obtain rfl := isB_some hk
  exact ha.run G hx _ fun v H1 s1 d1 p1 => ⟨k, dp_bool p1, q _ H1 s1 d1 (.bl _)⟩
theorem ev_if (hc : TTm K t m1) (ha : ET K ta ma) (hb : ET K tb mb) : ET K (tIf t ta tb) (mIfE m1 ma mb) := by
  refine ⟨fun {H0 T0 σ ρ H T d} G h Q q => ?_⟩
  obtain ⟨x, hx, h⟩ := bind_some h
  refine hc.run G hx _ fun H1 s1 d1 => ?_
  cases x with
  | true =>
    rw [if_pos rfl] at h ⊢
    exact ha.run (G.mono s1 d1) h _ fun u H2 s2 d2 p2 => q u H2 (s1.trans s2) d2 p2
  | false =>
    rw [if_neg Bool.false_ne_true] at h ⊢
    exact hb.run (G.mono s1 d1) h _ fun u H2 s2 d2 p2 => q u H2 (s1.trans s2) d2 p2
end
end DD

set_option Elab.async false
set_option linter.all false
set_option maxRecDepth 100000
set_option maxHeartbeats 4000000
namespace DD
open PySem PySem.Spec PyProof.Rows L2

theorem tuple_mul1 (l : Addr) (items : Array Value) (n : Nat) (dd : Option Addr) (sl : Array (Option Value)) (x : Int) (u : Tok) (c0 : (decide (x < -(2 ^ 63)) || decide (x ≥ 2 ^ 63)) = false) (c1 : (items.isEmpty || x == 1) = true) :
    Meets (Builtin.«tuple.__mul__» ⟨[.ref l, .int x u], []⟩) (fun _ R s => s.heap.get? l = some { cls := .type "tuple", dict := dd, data := .seq items n, slots := sl } ∧
      R (.ok (.ret (Value.ref l))) s) :=
  .of_wp fun prog w A R s h => by
    obtain ⟨hp, g, d, tk, os⟩ := s
    obtain ⟨hl, h⟩ := h
    have f1 := AutoSeq1.idx_int
    wp_walk using wpAny_loadPart' hl
    repeat (first
      | (refine wpAny_ite_false (decide_eq_false (by rw [c0]; exact Bool.false_ne_true)) ?_; wp_walk using wpAny_loadPart' hl)
      | (refine wpAny_ite_true (decide_eq_true c1) ?_; wp_walk using wpAny_loadPart' hl))
    exact ⟨_, rfl, h⟩
theorem tuple_mul0 (l : Addr) (items : Array Value) (n : Nat) (dd : Option Addr) (sl : Array (Option Value)) (x : Int) (u : Tok) (c0 : (decide (x < -(2 ^ 63)) || decide (x ≥ 2 ^ 63)) = false) (c1 : (items.isEmpty || x == 1) = false) (c2 : (decide (x ≤ 0) || items.isEmpty) = true) :
    Meets (Builtin.«tuple.__mul__» ⟨[.ref l, .int x u], []⟩) (fun _ R s => s.heap.get? l = some { cls := .type "tuple", dict := dd, data := .seq items n, slots := sl } ∧
      R (.ok (.ret (Value.ref s.heap.objs.size))) { s with heap := s.heap.push { cls := Value.type "tuple", data := Data.seq #[] }, toks := s.toks }) :=
  .of_wp fun prog w A R s h => by
    obtain ⟨hp, g, d, tk, os⟩ := s
    obtain ⟨hl, h⟩ := h
    have f1 := AutoSeq1.idx_int
    wp_walk using wpAny_loadPart' hl
    repeat (first
      | (refine wpAny_ite_false (decide_eq_false (by rw [c0]; exact Bool.false_ne_true)) ?_; wp_walk using wpAny_loadPart' hl)
      | (refine wpAny_ite_false (decide_eq_false (by rw [c1]; exact Bool.false_ne_true)) ?_; wp_walk using wpAny_loadPart' hl)
      | (refine wpAny_ite_true (decide_eq_true c2) ?_; wp_walk using wpAny_loadPart' hl))
    exact ⟨_, rfl, h⟩

section
variable {X : Cx}
def rRep0 (K : PySem.W.Frag) : R2 := fun x y H Q => ∃ l k xs, x = .ref l ∧ y = .int k ∧ SqT K H l xs ∧ xs ≠ [] ∧ k ≤ 1 ∧ -1000 ≤ k ∧ (k = 1 → Q (.ref l) H) ∧ (k ≤ 0 → ∀ p, H p = none → Q (.ref p) (upd H p (.tup [])))
theorem op_rep0 : OpR X (binaryOp .Mult) (rRep0 X.K) := by
  intro pins s σ H x y v u Q I rx ry h
  obtain ⟨l, k, xs, rfl, rfl, hT, hne, h1, h2, q1, q0⟩ := h
  cases rx
  obtain ⟨t, rfl⟩ := ry
  obtain ⟨its, r, ⟨⟨cls, dd, data, sl⟩, ho, hc, n, hd⟩, hs⟩ := I.tuple hT
  simp only at hc hd
  subst hc hd
  have hle : its.length = xs.length := r.length.symm
  have hn : its ≠ [] := fun e => hne (by
    rw [e] at hle
    exact List.eq_nil_of_length_eq_zero hle.symm)
  have hi : its.toArray.isEmpty = false := by
    cases its with
    | nil => exact absurd rfl hn
    | cons a b => rfl
  have c0 : (decide (k < -(2 ^ 63)) || decide (k ≥ 2 ^ 63)) = false := by
    rw [decide_eq_false (by omega), decide_eq_false (by omega)] <;> rfl
  by_cases hk : k = 1
  · have c1 : (its.toArray.isEmpty || k == 1) = true := by
      rw [hi, Bool.false_or]
      exact beq_iff_eq.mpr hk
    refine wpAny_binaryOp_repeat_ref (T := "tuple") (U := "int") (by decide) ⟨_, ho, rfl⟩ (fun s' => typeIs_int s' k t) noFill_tuple_mul F.fills_int_mul F.slot_int_rmul repeat_tuple F.slot_int_index.lookup
      (call_meets F.slot_int_rmul (typeIs_int s k t) F.entry_int_rmul (F.args_int_rmul_2 _ _) (int_rmul_tuple k t l its.toArray n dd sl)
        ⟨ho, rfl, ⟨_, ho, rfl⟩, call_meets F.slot_tuple_mul ⟨_, ho, rfl⟩ F.entry_tuple_mul (F.args_tuple_mul_2 _ _) (tuple_mul1 l its.toArray n dd sl k t c0 c1) ⟨ho, ?_⟩⟩)
    exact ⟨.ref l, H, I, rfl, q1 hk⟩
  · have c1 : (its.toArray.isEmpty || k == 1) = false := by
      rw [hi, Bool.false_or]
      exact beq_eq_false_iff_ne.mpr hk
    have c2 : (decide (k ≤ 0) || its.toArray.isEmpty) = true := by
      rw [decide_eq_true (by omega)]
      rfl
    refine wpAny_binaryOp_repeat_ref (T := "tuple") (U := "int") (by decide) ⟨_, ho, rfl⟩ (fun s' => typeIs_int s' k t) noFill_tuple_mul F.fills_int_mul F.slot_int_rmul repeat_tuple F.slot_int_index.lookup
      (call_meets F.slot_int_rmul (typeIs_int s k t) F.entry_int_rmul (F.args_int_rmul_2 _ _) (int_rmul_tuple k t l its.toArray n dd sl)
        ⟨ho, rfl, ⟨_, ho, rfl⟩, call_meets F.slot_tuple_mul ⟨_, ho, rfl⟩ F.entry_tuple_mul (F.args_tuple_mul_2 _ _) (tuple_mul0 l its.toArray n dd sl k t c0 c1 c2) ⟨ho, ?_⟩⟩)
    refine ⟨.ref s.heap.objs.size, _, I.laid (t' := s.toks) (o := .tup []) (fun b ob q => Heap.get?_push_of_some _ q) (Nat.le_refl _) ?_, rfl, q0 (by omega) _ (I.hok.fresh (Nat.le_refl _))⟩
    exact ⟨Nat.zero_le _, [], .nil, IsTup.new _ _⟩
end

/-! ### operations on data -/
section
variable {K : PySem.W.Frag} {H : Hp} {T : Ov} {x y v : V} {a b d : D}
theorem dp_int {i : Int} (h : Dp K H v (.int i)) : v = .int i := by cases h; rfl
theorem dp_str {z : Str} (h : Dp K H v (.str z)) : v = .str z := by cases h; rfl
theorem dp_non (h : Dp K H v .none) : v = .non := by cases h; rfl
theorem dp_tup {ds : List D} (h : Dp K H v (.tuple ds)) : ∃ p xs, v = .ref p ∧ SqT K H p xs ∧ DpAll K H xs ds := by cases h with | tup a b => exact ⟨_, _, rfl, a, b⟩
theorem dp_lst {ds : List D} (h : Dp K H v (.list ds)) : ∃ p xs, v = .ref p ∧ SqL K H p xs ∧ DpAll K H xs ds := by cases h with | lst a b => exact ⟨_, _, rfl, a, b⟩
theorem sqt_ov {p : Addr} {xs : List V} (dis : Dis H T) (h : SqT K H p xs) : SqT K (ov H T) p xs := Same.sqt (same_ov dis) h
theorem sql_ov {p : Addr} {xs : List V} (dis : Dis H T) (h : SqL K H p xs) : SqL K (ov H T) p xs := (same_ov dis).seq h
theorem dp_ov (dis : Dis H T) (h : Dp K H v d) : Dp K (ov H T) v d := dp_mono (same_ov dis) h
/-- a new tuple -/
theorem tup_new {Q : VK} {p : Addr} {xs : List V} {ds : List D} {H1 : Hp} (s : Same H H1) (dis : Dis H1 T) (np : ov H1 T p = none) (g : DpAll K H1 xs ds)
    (q : ∀ v H', Same H H' → Dis H' T → Dp K H' v (.tuple ds) → Q v (ov H' T)) : Q (.ref p) (upd (ov H1 T) p (.tup xs)) := by
  obtain ⟨nT, nH⟩ := ov_free np
  rw [upd_ov nT]
  exact q _ _ (s.trans (same_new nH)) (dis_upd dis nT) (.tup (SqT.of upd_same) (dpa_mono (same_new nH) g))

def inW (i : Int) : Bool := decide (-(2 ^ 64) < i) && decide (i < 2 ^ 64)
theorem inW_of {i : Int} (h : inW i = true) : -(2 ^ 64) < i ∧ i < 2 ^ 64 := by
  unfold inW at h
  rw [Bool.and_eq_true] at h
  exact ⟨of_decide_eq_true h.1, of_decide_eq_true h.2⟩
def dAdd : D → D → Option D
  | .int i, .int j => some (.int (i + j))
  | .str p, .str q => if p.length + q.length ≤ cap then some (.str (p ++ q)) else none
  | .tuple p, .tuple q => if p.length + q.length ≤ cap then some (.tuple (p ++ q)) else none
  | _, _ => none
def dSub : D → D → Option D
  | .int i, .int j => some (.int (i - j))
  | _, _ => none
def dMul : D → D → Option D
  | .int i, .int j => if (inW i || inW j) = true then some (.int (i * j)) else none
  | .tuple p, .int k => if p ≠ [] ∧ p.length ≤ 1000 ∧ -1000 ≤ k ∧ k ≤ 1000 then some (.tuple (List.replicate k.toNat p).flatten) else none
  | _, _ => none
def dFdiv : D → D → Option D
  | .int i, .int j => if 0 < j ∧ j.natAbs.log2 < 9000 then some (.int (i / j)) else none
  | _, _ => none
def dMod : D → D → Option D
  | .int i, .int j => if 0 < j then some (.int (i % j)) else none
  | _, _ => none
def dPow : D → D → Option D
  | .int i, .int j => if 0 ≤ j ∧ j ≤ 1000000 ∧ i.natAbs < 2 ^ 64 then some (.int (i ^ j.toNat)) else none
  | _, _ => none
def dNeg : D → Option D
  | .int i => some (.int (-i))
  | _ => none
def dCmp (p : Int → Int → Bool) : D → D → Option D
  | .int i, .int j => some (.bool (p i j))
  | _, _ => none
def dEq (a b : D) : Option D := if (SeqAt.shaped a && SeqAt.shaped b) = true then some (.bool (PyData.eqv a b)) else none
def dNe (a b : D) : Option D := if (SeqAt.shaped a && SeqAt.shaped b) = true then some (.bool (!PyData.eqv a b)) else none
def dIs : D → D → Option D
  | .none, .none => some (.bool true)
  | .bool _, .none => some (.bool false)
  | .int _, .none => some (.bool false)
  | .str _, .none => some (.bool false)
  | .tuple _, .none => some (.bool false)
  | .list _, .none => some (.bool false)
  | .bool p, .bool q => some (.bool (decide (p = q)))
  | _, _ => none
def dIsNot (a b : D) : Option D := (dIs a b).bind fun z => (isB z).map fun c => .bool (!c)

def rAddA (K : PySem.W.Frag) : R2 := fun x y H Q => rI0 (fun i j => .int (i + j)) x y H Q ∨ (∃ i j, x = V.str i ∧ y = .str j ∧ i.length + j.length ≤ sizeLine ∧ Q (.str (i ++ j)) H) ∨ rCatA K x y H Q
theorem op_addA {X : Cx} : OpR X (binaryOp .Add) (rAddA X.K) := op_add.or (op_add_str.or op_catA)
theorem rd_add : RD K (rAddA K) dAdd := by
  refine ⟨fun {H T x y a b d} dis ha hb h Q q => ?_⟩
  unfold dAdd at h
  split at h
  · cases h
    cases dp_int ha
    cases dp_int hb
    exact .inl ⟨_, _, rfl, rfl, q _ H (Same.refl H) dis (.int _)⟩
  · split at h
    · rename_i hz
      cases h
      cases dp_str ha
      cases dp_str hb
      exact .inr (.inl ⟨_, _, rfl, rfl, cap_line hz, q _ H (Same.refl H) dis (.str _)⟩)
    · cases h
  · split at h
    · rename_i p q' hz
      cases h
      obtain ⟨p1, xs, rfl, hx, gx⟩ := dp_tup ha
      obtain ⟨p2, ys, rfl, hy, gy⟩ := dp_tup hb
      refine .inr (.inr ⟨p1, p2, xs, ys, rfl, rfl, sqt_ov dis hx, sqt_ov dis hy, cap_line (by rw [dpa_len gx, dpa_len gy]; exact hz), fun e => ?_, fun _ e => ?_, fun _ _ r nr => ?_⟩)
      · rw [(dpa_nil_iff gx).mpr e, List.nil_append] at q
        exact q _ H (Same.refl H) dis hb
      · rw [(dpa_nil_iff gy).mpr e, List.append_nil] at q
        exact q _ H (Same.refl H) dis ha
      · exact tup_new (Same.refl H) dis nr (dpa_append gx gy) q
    · cases h
  · cases h
theorem rd_I0 {g : Int → Int → V} {f : D → D → Option D} (e : ∀ i j, ∃ d, f (.int i) (.int j) = some d ∧ ∀ H, Dp K H (g i j) d) (o : ∀ a b d, f a b = some d → ∃ i j, a = .int i ∧ b = .int j) : RD K (rI0 g) f := by
  refine ⟨fun {H T x y a b d} dis ha hb h Q q => ?_⟩
  obtain ⟨i, j, rfl, rfl⟩ := o a b d h
  obtain ⟨d', h', g'⟩ := e i j
  rw [h] at h'
  cases h'
  cases dp_int ha
  cases dp_int hb
  exact ⟨i, j, rfl, rfl, q _ H (Same.refl H) dis (g' H)⟩
theorem rd_sub : RD K (rI0 fun i j => .int (i - j)) dSub := rd_I0 (fun i j => ⟨_, rfl, fun _ => .int _⟩) fun a b d h => by
  unfold dSub at h
  split at h
  · exact ⟨_, _, rfl, rfl⟩
  · cases h
theorem rd_cmp {p : Int → Int → Bool} : RD K (rI0 fun i j => .bl (p i j)) (dCmp p) := rd_I0 (fun i j => ⟨_, rfl, fun _ => .bl _⟩) fun a b d h => by
  unfold dCmp at h
  split at h
  · exact ⟨_, _, rfl, rfl⟩
  · cases h
theorem rd_lt : RD K (rI0 fun i j => .bl (decide (i < j))) (dCmp fun i j => decide (i < j)) := rd_cmp
theorem rd_le : RD K (rI0 fun i j => .bl (decide (i ≤ j))) (dCmp fun i j => decide (i ≤ j)) := rd_cmp
theorem rd_gt : RD K (rI0 fun i j => .bl (decide (j < i))) (dCmp fun i j => decide (j < i)) := rd_cmp
theorem rd_ge : RD K (rI0 fun i j => .bl (decide (j ≤ i))) (dCmp fun i j => decide (j ≤ i)) := rd_cmp
theorem rd_I {C : Int → Int → Prop} {g : Int → Int → V} {f : D → D → Option D} (o : ∀ a b d, f a b = some d → ∃ i j, a = .int i ∧ b = .int j ∧ C i j ∧ ∀ H, Dp K H (g i j) d) : RD K (rI C g) f := by
  refine ⟨fun {H T x y a b d} dis ha hb h Q q => ?_⟩
  obtain ⟨i, j, rfl, rfl, c, g'⟩ := o a b d h
  cases dp_int ha
  cases dp_int hb
  exact ⟨i, j, rfl, rfl, c, q _ H (Same.refl H) dis (g' H)⟩
theorem rd_fdiv : RD K (rI CDivW fun i j => .int (i / j)) dFdiv := rd_I fun a b d h => by
  unfold dFdiv at h
  split at h
  · split at h
    · rename_i c
      cases h
      exact ⟨_, _, rfl, rfl, c, fun _ => .int _⟩
    · cases h
  · cases h
theorem rd_mod : RD K (rI (fun _ j => 0 < j) fun i j => .int (i % j)) dMod := rd_I fun a b d h => by
  unfold dMod at h
  split at h
  · split at h
    · rename_i c
      cases h
      exact ⟨_, _, rfl, rfl, c, fun _ => .int _⟩
    · cases h
  · cases h
theorem rd_pow : RD K (rI CPow fun i j => .int (i ^ j.toNat)) dPow := rd_I fun a b d h => by
  unfold dPow at h
  split at h
  · split at h
    · rename_i c
      cases h
      exact ⟨_, _, rfl, rfl, c, fun _ => .int _⟩
    · cases h
  · cases h
theorem ud_neg : UD K (rU fun i => .int (-i)) dNeg := by
  refine ⟨fun {H T x a d} dis ha h Q q => ?_⟩
  unfold dNeg at h
  split at h
  · cases h
    cases dp_int ha
    exact ⟨_, rfl, q _ H (Same.refl H) dis (.int _)⟩
  · cases h
def rMulA (K : PySem.W.Frag) : R2 := fun x y H Q => rI CMul (fun i j => .int (i * j)) x y H Q ∨ rRepT K x y H Q ∨ rRep0 K x y H Q
theorem op_mulA {X : Cx} : OpR X (binaryOp .Mult) (rMulA X.K) := op_mul.or (op_repT.or op_rep0)
theorem rd_mul : RD K (rMulA K) dMul := by
  refine ⟨fun {H T x y a b d} dis ha hb h Q q => ?_⟩
  unfold dMul at h
  split at h
  · split at h
    · rename_i c
      cases h
      cases dp_int ha
      cases dp_int hb
      refine .inl ⟨_, _, rfl, rfl, ?_, q _ H (Same.refl H) dis (.int _)⟩
      rw [Bool.or_eq_true] at c
      exact c.elim (fun z => .inl (inW_of z)) fun z => .inr (inW_of z)
    · cases h
  · split at h
    · rename_i p k c
      cases h
      obtain ⟨p1, xs, rfl, hx, gx⟩ := dp_tup ha
      cases dp_int hb
      have ne : xs ≠ [] := fun e => c.1 ((dpa_nil_iff gx).mpr e)
      by_cases hk : 2 ≤ k
      · refine .inr (.inl ⟨p1, k, xs, rfl, rfl, sqt_ov dis hx, ne, hk, c.2.2.2, by rw [dpa_len gx]; exact c.2.1, fun r nr => ?_⟩)
        exact tup_new (Same.refl H) dis nr (dpa_rep gx _) q
      · refine .inr (.inr ⟨p1, k, xs, rfl, rfl, sqt_ov dis hx, ne, by omega, c.2.2.1, fun e => ?_, fun e r nr => ?_⟩)
        · have : (List.replicate k.toNat p).flatten = p := by
            subst e
            show (List.replicate 1 p).flatten = p
            simp
          rw [this] at q
          exact q _ H (Same.refl H) dis ha
        · have e0 : k.toNat = 0 := by omega
          rw [e0] at q
          exact tup_new (Same.refl H) dis nr .nil q
    · cases h
  · cases h
theorem rd_eq : RD K (rEqD K) dEq := by
  refine ⟨fun {H T x y a b d} dis ha hb h Q q => ?_⟩
  unfold dEq at h
  split at h
  · rename_i c
    rw [Bool.and_eq_true] at c
    cases h
    exact ⟨a, b, dp_ov dis ha, dp_ov dis hb, c.1, c.2, q _ H (Same.refl H) dis (.bl _)⟩
  · cases h
theorem rd_ne : RD K (rNeD K) dNe := by
  refine ⟨fun {H T x y a b d} dis ha hb h Q q => ?_⟩
  unfold dNe at h
  split at h
  · rename_i c
    rw [Bool.and_eq_true] at c
    cases h
    exact ⟨a, b, dp_ov dis ha, dp_ov dis hb, c.1, c.2, q _ H (Same.refl H) dis (.bl _)⟩
  · cases h
def rIsA : R2 := fun x y H Q => rIsN x y H Q ∨ rIsB x y H Q
def rNotA : R2 := fun x y H Q => rNotN x y H Q ∨ rNotB x y H Q
theorem op_isA {X : Cx} : OpR X (compareOp .Is) rIsA := op_isN1.or op_isBl
theorem op_notA {X : Cx} : OpR X (compareOp .IsNot) rNotA := op_notN1.or op_notBl
theorem dis_cases {a b d : D} (h : dIs a b = some d) : (b = .none ∧ ∃ c, d = .bool c ∧ ∀ H v, Dp K H v a → decide (v = .non) = c) ∨ ∃ p q, a = .bool p ∧ b = .bool q ∧ d = .bool (decide (p = q)) := by
  unfold dIs at h
  split at h <;> first
    | (cases h; exact .inl ⟨rfl, _, rfl, fun H v g => by cases g <;> simp⟩)
    | (cases h; exact .inr ⟨_, _, rfl, rfl, rfl⟩)
    | cases h
theorem rd_is : RD K rIsA dIs := by
  refine ⟨fun {H T x y a b d} dis ha hb h Q q => ?_⟩
  rcases dis_cases (K := K) h with ⟨rfl, c, rfl, g⟩ | ⟨p, q', rfl, rfl, rfl⟩
  · exact .inl ⟨dp_non hb, by rw [g H x ha]; exact q _ H (Same.refl H) dis (.bl _)⟩
  · exact .inr ⟨p, q', dp_bool ha, dp_bool hb, q _ H (Same.refl H) dis (.bl _)⟩
theorem rd_isnot : RD K rNotA dIsNot := by
  refine ⟨fun {H T x y a b d} dis ha hb h Q q => ?_⟩
  obtain ⟨z, hz, h⟩ := bind_some h
  obtain ⟨k, hk, h⟩ := map_some h
  subst h
  rcases dis_cases (K := K) hz with ⟨rfl, c, rfl, g⟩ | ⟨p, q', rfl, rfl, rfl⟩
  · cases isB_some hk
    exact .inl ⟨dp_non hb, by rw [g H x ha]; exact q _ H (Same.refl H) dis (.bl _)⟩
  · cases isB_some hk
    exact .inr ⟨p, q', dp_bool ha, dp_bool hb, q _ H (Same.refl H) dis (.bl _)⟩
end
end DD

set_option Elab.async false
set_option linter.all false
set_option maxRecDepth 100000
set_option maxHeartbeats 4000000
namespace DD
open PySem PySem.Spec PyProof.Rows L2
section
variable {K : PySem.W.Frag} {H : Hp} {T : Ov} {x y v : V} {a b d : D}

/-! ### len, all, any, max, min, tuple, list, sorted -/
def dLen : List D → Option D
  | [.str z] => if z.length ≤ cap then some (.int z.length) else none
  | [.list ds] => if ds.length ≤ cap then some (.int ds.length) else none
  | [.tuple ds] => if ds.length ≤ cap then some (.int ds.length) else none
  | _ => none
def rLenA (K : PySem.W.Frag) : List V → Hp → VK → Prop := fun xs H Q => ∃ x n, xs = [x] ∧ LenV K x H n ∧ Q (.int n) H
theorem cr_len {X : Cx} : CallR X (.builtin "len") (rLenA X.K) := call_len
theorem dpa_one {vs : List V} (h : DpAll K H vs [d]) : ∃ v, vs = [v] ∧ Dp K H v d := by
  cases h with
  | cons a b => cases b; exact ⟨_, rfl, a⟩
theorem dpa_two {vs : List V} (h : DpAll K H vs [a, b]) : ∃ u v, vs = [u, v] ∧ Dp K H u a ∧ Dp K H v b := by
  cases h with
  | cons p q =>
    obtain ⟨v, rfl, r⟩ := dpa_one q
    exact ⟨_, v, rfl, p, r⟩
theorem cd_len : CD K (rLenA K) dLen := by
  refine ⟨fun {H T vs ds d} dis h e Q q => ?_⟩
  unfold dLen at e
  split at e
  · split at e
    · rename_i z hz
      cases e
      obtain ⟨v, rfl, g⟩ := dpa_one h
      cases dp_str g
      exact ⟨_, _, rfl, ⟨cap_line hz, rfl⟩, q _ H (Same.refl H) dis (.int _)⟩
    · cases e
  · split at e
    · rename_i es hz
      cases e
      obtain ⟨v, rfl, g⟩ := dpa_one h
      obtain ⟨p, xs, rfl, hx, gx⟩ := dp_lst g
      exact ⟨_, _, rfl, .inl ⟨xs, sql_ov dis hx, rfl⟩, by rw [dpa_len gx]; exact q _ H (Same.refl H) dis (.int _)⟩
    · cases e
  · split at e
    · rename_i es hz
      cases e
      obtain ⟨v, rfl, g⟩ := dpa_one h
      obtain ⟨p, xs, rfl, hx, gx⟩ := dp_tup g
      exact ⟨_, _, rfl, .inr ⟨xs, sqt_ov dis hx, rfl⟩, by rw [dpa_len gx]; exact q _ H (Same.refl H) dis (.int _)⟩
    · cases e
  · cases e
/-- a list of truths -/
def bools : List D → Option (List Bool)
  | [] => some []
  | .bool b :: r => (bools r).map fun x => b :: x
  | _ => none
theorem bools_of : ∀ {ds : List D} {bs : List Bool}, bools ds = some bs → ∀ {vs : List V}, DpAll K H vs ds → vs = bs.map V.bl
  | [], bs, h, vs, g => by cases h; cases g; rfl
  | .bool b :: r, bs, h, vs, g => by
    obtain ⟨c, hc, e⟩ := map_some h
    subst e
    cases g with
    | cons p q => rw [List.map_cons, dp_bool p, bools_of hc q]
  | .none :: _, _, h, _, _ => by cases h
  | .int _ :: _, _, h, _, _ => by cases h
  | .str _ :: _, _, h, _, _ => by cases h
  | .list _ :: _, _, h, _, _ => by cases h
  | .tuple _ :: _, _, h, _, _ => by cases h
  | .dict _ :: _, _, h, _, _ => by cases h
def dAll : List D → Option D
  | [.list ds] => (bools ds).map fun bs => .bool (bs.all id)
  | _ => none
def dAny : List D → Option D
  | [.list ds] => (bools ds).map fun bs => .bool (bs.any id)
  | _ => none
theorem cd_all : CD K (rAll K) dAll := by
  refine ⟨fun {H T vs ds d} dis h e Q q => ?_⟩
  unfold dAll at e
  split at e
  · obtain ⟨bs, hb, e⟩ := map_some e
    subst e
    obtain ⟨v, rfl, g⟩ := dpa_one h
    obtain ⟨p, xs, rfl, hx, gx⟩ := dp_lst g
    rw [bools_of hb gx] at hx
    exact ⟨p, bs, rfl, sql_ov dis hx, q _ H (Same.refl H) dis (.bl _)⟩
  · cases e
theorem cd_any : CD K (rAny K) dAny := by
  refine ⟨fun {H T vs ds d} dis h e Q q => ?_⟩
  unfold dAny at e
  split at e
  · obtain ⟨bs, hb, e⟩ := map_some e
    subst e
    obtain ⟨v, rfl, g⟩ := dpa_one h
    obtain ⟨p, xs, rfl, hx, gx⟩ := dp_lst g
    rw [bools_of hb gx] at hx
    exact ⟨p, bs, rfl, sql_ov dis hx, q _ H (Same.refl H) dis (.bl _)⟩
  · cases e
def rMax2 : List V → Hp → VK → Prop := fun xs H Q => ∃ i j, xs = [.int i, .int j] ∧ Q (.int (if j > i then j else i)) H
def rMin2 : List V → Hp → VK → Prop := fun xs H Q => ∃ i j, xs = [.int i, .int j] ∧ Q (.int (if j < i then j else i)) H
theorem cr_max2 {X : Cx} (hc : X.calm = true) : CallR X (.builtin "max") rMax2 := call_max2 hc
theorem cr_min2 {X : Cx} (hc : X.calm = true) : CallR X (.builtin "min") rMin2 := call_min2 hc
def dMax2 : List D → Option D
  | [.int i, .int j] => some (.int (if j > i then j else i))
  | _ => none
def dMin2 : List D → Option D
  | [.int i, .int j] => some (.int (if j < i then j else i))
  | _ => none
theorem cd_max2 : CD K rMax2 dMax2 := by
  refine ⟨fun {H T vs ds d} dis h e Q q => ?_⟩
  unfold dMax2 at e
  split at e
  · cases e
    obtain ⟨u, v, rfl, g1, g2⟩ := dpa_two h
    cases dp_int g1
    cases dp_int g2
    exact ⟨_, _, rfl, q _ H (Same.refl H) dis (.int _)⟩
  · cases e
theorem cd_min2 : CD K rMin2 dMin2 := by
  refine ⟨fun {H T vs ds d} dis h e Q q => ?_⟩
  unfold dMin2 at e
  split at e
  · cases e
    obtain ⟨u, v, rfl, g1, g2⟩ := dpa_two h
    cases dp_int g1
    cases dp_int g2
    exact ⟨_, _, rfl, q _ H (Same.refl H) dis (.int _)⟩
  · cases e
def rTupOf (K : PySem.W.Frag) : List V → Hp → VK → Prop := fun xs H Q => ∃ p ys, xs = [.ref p] ∧ ((SqL K H p ys ∧ ∀ l, H l = none → Q (.ref l) (upd H l (.tup ys))) ∨ (SqT K H p ys ∧ Q (.ref p) H))
theorem cr_tupOf {X : Cx} : CallR X (.type "tuple") (rTupOf X.K) := call_tuple_of
def dTupOf : List D → Option D
  | [.list ds] => some (.tuple ds)
  | [.tuple ds] => some (.tuple ds)
  | _ => none
theorem cd_tupOf : CD K (rTupOf K) dTupOf := by
  refine ⟨fun {H T vs ds d} dis h e Q q => ?_⟩
  unfold dTupOf at e
  split at e
  · cases e
    obtain ⟨v, rfl, g⟩ := dpa_one h
    obtain ⟨p, xs, rfl, hx, gx⟩ := dp_lst g
    exact ⟨p, xs, rfl, .inl ⟨sql_ov dis hx, fun l nl => tup_new (Same.refl H) dis nl gx q⟩⟩
  · cases e
    obtain ⟨v, rfl, g⟩ := dpa_one h
    obtain ⟨p, xs, rfl, hx, gx⟩ := dp_tup g
    exact ⟨p, xs, rfl, .inr ⟨sqt_ov dis hx, q _ H (Same.refl H) dis g⟩⟩
  · cases e
def rLstOf (K : PySem.W.Frag) : List V → Hp → VK → Prop := fun xs H Q => ∃ p ys, xs = [.ref p] ∧ (SqL K H p ys ∨ SqT K H p ys) ∧ ∀ l, H l = none → Q (.ref l) (upd H l (.lst ys))
theorem cr_lstOf {X : Cx} : CallR X (.type "list") (rLstOf X.K) := call_list_of
def dLstOf : List D → Option (List D)
  | [.list ds] => some ds
  | [.tuple ds] => some ds
  | _ => none
theorem cl_lstOf : CL K (rLstOf K) dLstOf := by
  refine ⟨fun {H T vs ds es} dis h e Q q => ?_⟩
  unfold dLstOf at e
  split at e
  · cases e
    obtain ⟨v, rfl, g⟩ := dpa_one h
    obtain ⟨p, xs, rfl, hx, gx⟩ := dp_lst g
    exact ⟨p, xs, rfl, .inl (sql_ov dis hx), fun l nl => q l xs H (Same.refl H) dis nl gx⟩
  · cases e
    obtain ⟨v, rfl, g⟩ := dpa_one h
    obtain ⟨p, xs, rfl, hx, gx⟩ := dp_tup g
    exact ⟨p, xs, rfl, .inr (sqt_ov dis hx), fun l nl => q l xs H (Same.refl H) dis nl gx⟩
  · cases e

/-! ### isinstance -/
def tyName : D → String
  | .none => "NoneType"
  | .bool _ => "bool"
  | .int _ => "int"
  | .str _ => "str"
  | .list _ => "list"
  | .tuple _ => "tuple"
  | .dict _ => "dict"
theorem tyX_of (dis : Dis H T) (h : Dp K H v d) : TyX K (ov H T) v (.type (tyName d)) := by
  cases h with
  | non => exact .base .non
  | bl b => exact .base (.bl b)
  | int i => exact .base (.int i)
  | str z => exact .base (.str z)
  | lst hs _ =>
    rcases sql_ov dis hs with (h | ⟨o, h⟩) | ⟨o, its, n, hk, hc, _⟩
    · exact .base (.lst h)
    · exact .base (.frz h)
    · exact .kList hk hc
  | tup hs _ =>
    rcases sqt_ov dis hs with (h | ⟨o, h⟩) | ⟨o, its, n, hk, hc, _⟩
    · exact .base (.tup h)
    · exact .fTuple h
    · exact .kTuple hk hc
/-- whether a thing is of a built-in class -/
def isName (c t : String) : Bool := t == c || (c == "int" && t == "bool")
def isIt (c : String) (d : D) : Bool := isName c (tyName d)
def dIsi (c : String) (d : D) : Option D := some (.bool (isIt c d))
def tyNames : List String := ["NoneType", "bool", "int", "str", "list", "tuple", "dict"]
theorem ty_in (d : D) : tyName d ∈ tyNames := by cases d <;> simp [tyName, tyNames]
def ClsOk (c : String) : Prop := ∀ d : D, kitB (tyName d) c = some (isIt c d)
theorem cls_by {c : String} (h : ∀ t ∈ tyNames, kitB t c = some (isName c t)) : ClsOk c := fun d => h _ (ty_in d)
theorem cls_int : ClsOk "int" := cls_by (by decide +kernel)
theorem cls_bool : ClsOk "bool" := cls_by (by decide +kernel)
theorem cls_str : ClsOk "str" := cls_by (by decide +kernel)
theorem cls_list : ClsOk "list" := cls_by (by decide +kernel)
theorem cls_tuple : ClsOk "tuple" := cls_by (by decide +kernel)
theorem ev_isi {c : String} {ta : TE} {ma : En → Option D} (hc : ClsOk c) (ha : ET K ta ma) : ET K (tCB (rIsi K) (tCons ta (tCons (tC (.ty c)) tNil))) (mUn (dIsi c) ma) := by
  refine ⟨fun {H0 T0 σ ρ H T d} G h Q q => ?_⟩
  obtain ⟨x, hx, h⟩ := bind_some h
  cases h
  refine ha.run G hx _ fun v H1 s1 d1 p1 => ?_
  exact ⟨v, .ty c, _, _, _, rfl, .ty c, tyX_of d1 p1, kit_ty (hc x), q _ H1 s1 d1 (.bl _)⟩

/-! ### truth of a value -/
def tru : D → Option Bool
  | .none => some false
  | .bool b => some b
  | .int i => some (i != 0)
  | .str z => if z.length ≤ cap then some ((z.length : Int) != 0) else none
  | .list ds => some (!ds.isEmpty)
  | .tuple ds => some (!ds.isEmpty)
  | .dict _ => none
def mTru (a : En → Option D) : En → Option Bool := fun ρ => (a ρ).bind tru
theorem emp_of {xs : List V} {ds : List D} (h : DpAll K H xs ds) : xs.isEmpty = ds.isEmpty := by cases h <;> rfl
theorem et_tru {ta : TE} {ma : En → Option D} (ha : ET K ta ma) : TTm K (tTru K ta) (mTru ma) := by
  refine ⟨fun {H0 T0 σ ρ H T b} G h Q q => ?_⟩
  obtain ⟨x, hx, h⟩ := bind_some h
  refine ha.run G hx _ fun v H1 s1 d1 p1 => ⟨b, ?_, q H1 s1 d1⟩
  unfold tru at h
  split at h
  · cases h; cases dp_non p1; rfl
  · cases h; cases dp_bool p1; rfl
  · cases h; cases dp_int p1; rfl
  · split at h
    · rename_i hz
      cases h; cases dp_str p1; exact ⟨cap_line hz, rfl⟩
    · cases h
  · cases h
    obtain ⟨p, xs, rfl, hs, g⟩ := dp_lst p1
    exact .inl ⟨xs, sql_ov d1 hs, by rw [emp_of g]⟩
  · cases h
    obtain ⟨p, xs, rfl, hs, g⟩ := dp_tup p1
    exact .inr (.inl ⟨xs, sqt_ov d1 hs, by rw [emp_of g]⟩)
  · cases h

/-! ### places, slices -/
def dIx : D → D → Option D
  | .list ds, .int i => atI ds i
  | .tuple ds, .int i => atI ds i
  | .str z, .int i => if z.length ≤ cap then (atI z.cps.toList i).map fun c => .str ⟨#[c]⟩ else none
  | _, _ => none
theorem atI_dp {xs : List V} {ds : List D} (h : DpAll K H xs ds) {i : Int} (e : atI ds i = some d) : ∃ v, atI xs i = some v ∧ Dp K H v d := by
  unfold atI at e ⊢
  rw [dpa_len h]
  obtain ⟨j, hj, e⟩ := bind_some e
  rw [hj]
  exact dpa_get h e
theorem rd_ix : RD K (rIx K) dIx := by
  refine ⟨fun {H T x y a b d} dis ha hb h Q q => ?_⟩
  unfold dIx at h
  split at h
  · obtain ⟨p, xs, rfl, hs, g⟩ := dp_lst ha
    cases dp_int hb
    obtain ⟨v, hv, gv⟩ := atI_dp g h
    exact .inl ⟨p, xs, _, v, rfl, rfl, sql_ov dis hs, hv, q v H (Same.refl H) dis gv⟩
  · obtain ⟨p, xs, rfl, hs, g⟩ := dp_tup ha
    cases dp_int hb
    obtain ⟨v, hv, gv⟩ := atI_dp g h
    exact .inr (.inl ⟨p, xs, _, v, rfl, rfl, sqt_ov dis hs, hv, q v H (Same.refl H) dis gv⟩)
  · split at h
    · rename_i z i hz
      obtain ⟨c, hc, h⟩ := map_some h
      subst h
      cases dp_str ha
      cases dp_int hb
      exact .inr (.inr ⟨z, i, c, rfl, rfl, cap_line hz, hc, q _ H (Same.refl H) dis (.str _)⟩)
    · cases h
  · cases h
/-- a slice's parts -/
structure PAm (K : PySem.W.Frag) (t : TO) (m : En → Option (Option Int)) : Prop where
  run : ∀ {H0 : Hp} {T0 : Ov} {σ : L2.St} {ρ : En} {H : Hp} {T : Ov} {o : Option Int}, Good K H0 T0 σ ρ H T → m ρ = some o →
    ∀ Q : Option Int → Hp → Prop, (∀ H', Same H H' → Dis H' T → Q o (ov H' T)) → t σ (ov H T) Q
def mNoPart : En → Option (Option Int) := fun _ => some none
def isI : D → Option Int
  | .int i => some i
  | _ => none
def mPart (a : En → Option D) : En → Option (Option Int) := fun ρ => (a ρ).bind fun x => (isI x).map some
theorem po_no : PAm K tNoPart mNoPart := ⟨fun {H0 T0 σ ρ H T o} G h Q q => by cases h; exact q H (Same.refl H) G.dis⟩
theorem po_part {ta : TE} {ma : En → Option D} (ha : ET K ta ma) : PAm K (tPart ta) (mPart ma) := by
  refine ⟨fun {H0 T0 σ ρ H T o} G h Q q => ?_⟩
  obtain ⟨x, hx, h⟩ := bind_some h
  obtain ⟨i, hi, h⟩ := map_some h
  subst h
  have e : x = .int i := by
    unfold isI at hi
    split at hi
    · cases hi; rfl
    · cases hi
  subst e
  exact ha.run G hx _ fun v H1 s1 d1 p1 => ⟨i, dp_int p1, q H1 s1 d1⟩
def cutD (ds : List D) (lo hi : Option Int) : List D := (ds.drop (HT.sIx ds.length 0 lo)).take (HT.sIx ds.length ds.length hi - HT.sIx ds.length 0 lo)
theorem dpa_cut {xs : List V} {ds : List D} (h : DpAll K H xs ds) (lo hi : Option Int) : DpAll K H (cutV xs lo hi) (cutD ds lo hi) := by
  unfold cutV cutD
  rw [dpa_len h]
  exact dpa_take _ (dpa_drop _ h)
def dSl (d : D) (lo hi : Option Int) : Option D := match d with
  | .tuple ds => some (.tuple (cutD ds lo hi))
  | .str z => if z.length ≤ cap then some (.str (cutS z lo hi)) else none
  | _ => none
def mSl (a : En → Option D) (l h : En → Option (Option Int)) : En → Option D := fun ρ => (a ρ).bind fun x => (l ρ).bind fun lo => (h ρ).bind fun hi => dSl x lo hi
def rSlX (K : PySem.W.Frag) : V → Option Int → Option Int → Hp → VK → Prop := fun x lo hi H Q => rSlA K x lo hi H Q ∨ rSlS x lo hi H Q
theorem sl_any {X : Cx} : SlR X (rSlX X.K) := SlR.or sl_tupA sl_str
theorem ev_sl {ta : TE} {tl th : TO} {ma : En → Option D} {ml mh : En → Option (Option Int)} (ha : ET K ta ma) (hl : PAm K tl ml) (hh : PAm K th mh) : ET K (tSl (rSlX K) ta tl th) (mSl ma ml mh) := by
  refine ⟨fun {H0 T0 σ ρ H T d} G h Q q => ?_⟩
  obtain ⟨x, hx, h1⟩ := bind_some h
  obtain ⟨lo, hlo, h2⟩ := bind_some h1
  obtain ⟨hi, hhi, h3⟩ := bind_some h2
  refine ha.run G hx _ fun v H1 s1 d1 p1 => ?_
  refine hl.run (G.mono s1 d1) hlo _ fun H2 s2 d2 => ?_
  refine hh.run (G.mono (s1.trans s2) d2) hhi _ fun H3 s3 d3 => ?_
  have p3 := dp_mono (s2.trans s3) p1
  have s13 := (s1.trans s2).trans s3
  unfold dSl at h3
  split at h3
  · cases h3
    obtain ⟨p, xs, rfl, hs, g⟩ := dp_tup p3
    refine .inl ⟨p, xs, rfl, sqt_ov d3 hs, fun hw => ?_, fun hw r nr => ?_⟩
    · refine q _ H3 s13 d3 ?_
      have := dpa_cut g lo hi
      unfold cutV at this
      rw [hw.1, hw.2, List.drop_zero, Nat.sub_zero, List.take_length] at this
      exact .tup hs this
    · exact tup_new (Same.refl H3) d3 nr (dpa_cut g lo hi) fun u H4 s4 d4 p4 => q u H4 (s13.trans s4) d4 p4
  · split at h3
    · rename_i hz
      cases h3
      cases dp_str p3
      exact .inr ⟨_, rfl, cap_line hz, q _ H3 s13 d3 (.str _)⟩
    · cases h3
  · cases h3
def mSlL (a : En → Option D) (l h : En → Option (Option Int)) : En → Option (List D) := fun ρ => (a ρ).bind fun x => (l ρ).bind fun lo => (h ρ).bind fun hi => match x with
  | .list ds => some (cutD ds lo hi)
  | _ => none
theorem fl_sl {ta : TE} {tl th : TO} {ma : En → Option D} {ml mh : En → Option (Option Int)} (ha : ET K ta ma) (hl : PAm K tl ml) (hh : PAm K th mh) : FL K (tSl (rSlL K) ta tl th) (mSlL ma ml mh) := by
  refine ⟨fun {H0 T0 σ ρ H T d} G h Q q => ?_⟩
  obtain ⟨x, hx, h1⟩ := bind_some h
  obtain ⟨lo, hlo, h2⟩ := bind_some h1
  obtain ⟨hi, hhi, h3⟩ := bind_some h2
  refine ha.run G hx _ fun v H1 s1 d1 p1 => ?_
  refine hl.run (G.mono s1 d1) hlo _ fun H2 s2 d2 => ?_
  refine hh.run (G.mono (s1.trans s2) d2) hhi _ fun H3 s3 d3 => ?_
  have p3 := dp_mono (s2.trans s3) p1
  split at h3
  · cases h3
    obtain ⟨p, xs, rfl, hs, g⟩ := dp_lst p3
    exact ⟨p, xs, rfl, sql_ov d3 hs, fun r nr => q r _ H3 ((s1.trans s2).trans s3) d3 nr (dpa_cut g lo hi)⟩
  · cases h3

/-! ### in -/
def dInS : D → D → Option D
  | .str p, .str z => match p.cps.toList with
    | [c] => some (.bool (decide (c ∈ z.cps.toList)))
    | _ => none
  | _, _ => none
def dNotInS (a b : D) : Option D := (dInS a b).bind fun z => (isB z).map fun c => .bool (!c)
theorem inS_cases {a b d : D} (h : dInS a b = some d) : ∃ c z, a = .str ⟨#[c]⟩ ∧ b = .str z ∧ d = .bool (decide (c ∈ z.cps.toList)) := by
  unfold dInS at h
  split at h
  · rename_i p z
    split at h
    · rename_i c e
      cases h
      refine ⟨c, z, ?_, rfl, rfl⟩
      obtain ⟨p⟩ := p
      have : p = #[c] := by
        have e' : p.toList = [c] := e
        rw [← Array.toArray_toList (xs := p), e']
      rw [this]
    · cases h
  · cases h
theorem rd_inS : RD K rInS dInS := by
  refine ⟨fun {H T x y a b d} dis ha hb h Q q => ?_⟩
  obtain ⟨c, z, rfl, rfl, rfl⟩ := inS_cases h
  exact ⟨c, z, dp_str ha, dp_str hb, q _ H (Same.refl H) dis (.bl _)⟩
theorem rd_notInS : RD K rNotInS dNotInS := by
  refine ⟨fun {H T x y a b d} dis ha hb h Q q => ?_⟩
  obtain ⟨w, hw, h⟩ := bind_some h
  obtain ⟨k, hk, h⟩ := map_some h
  subst h
  obtain ⟨c, z, rfl, rfl, rfl⟩ := inS_cases hw
  cases isB_some hk
  exact ⟨c, z, dp_str ha, dp_str hb, q _ H (Same.refl H) dis (.bl _)⟩
/-- in a list of any data -/
def dInL : D → D → Option D
  | x, .list ds => if (SeqAt.shaped x && SeqAt.shaped (.list ds)) = true then some (.bool (ds.any fun z => PyData.eqv z x)) else none
  | _, _ => none
def dNotInL (a b : D) : Option D := (dInL a b).bind fun z => (isB z).map fun c => .bool (!c)
theorem rd_inL : RD K (rInD K) dInL := by
  refine ⟨fun {H T x y a b d} dis ha hb h Q q => ?_⟩
  unfold dInL at h
  split at h
  · rename_i ds
    split at h
    · rename_i c
      rw [Bool.and_eq_true] at c
      cases h
      exact ⟨a, ds, dp_ov dis ha, dp_ov dis hb, c.1, c.2, q _ H (Same.refl H) dis (.bl _)⟩
    · cases h
  · cases h
theorem rd_notInL : RD K (rNotInD K) dNotInL := by
  refine ⟨fun {H T x y a b d} dis ha hb h Q q => ?_⟩
  obtain ⟨w, hw, h⟩ := bind_some h
  obtain ⟨k, hk, h⟩ := map_some h
  subst h
  unfold dInL at hw
  split at hw
  · rename_i ds
    split at hw
    · rename_i c
      rw [Bool.and_eq_true] at c
      cases hw
      cases isB_some hk
      exact ⟨a, ds, dp_ov dis ha, dp_ov dis hb, c.1, c.2, q _ H (Same.refl H) dis (.bl _)⟩
    · cases hw
  · cases hw
/-- in a tuple of flat data -/
def flatD : D → Bool
  | .none => true
  | .bool _ => true
  | .int _ => true
  | .str _ => true
  | _ => false
def dInT (neg : Bool) : D → D → Option D
  | x, .tuple ds => if (flatD x && ds.all flatD) = true then some (.bool (if neg then !(ds.any fun z => PyData.eqv z x) else ds.any fun z => PyData.eqv z x)) else none
  | _, _ => none
theorem flat_of (h : Dp K H v d) (f : flatD d = true) : flatV v = true := by cases h <;> first | rfl | cases f
theorem flatA_of : ∀ {xs : List V} {ds : List D}, DpAll K H xs ds → ds.all flatD = true → xs.all flatV = true
  | _, _, .nil, _ => rfl
  | _, _, .cons h t, f => by
    rw [List.all_cons, Bool.and_eq_true] at f
    rw [List.all_cons, flat_of h f.1, flatA_of t f.2]
    rfl
theorem eqV_eqv {x y : V} {a b : D} (ha : Dp K H x a) (hb : Dp K H y b) (fa : flatD a = true) (fb : flatD b = true) : eqV x y = PyData.eqv a b := by
  cases ha <;> first | (cases fa; done) | (cases hb <;> first | (cases fb; done) | (simp [eqV, PyData.eqv]; done) | rfl)
theorem inV_eqv {x : V} {a : D} (ha : Dp K H x a) (fa : flatD a = true) : ∀ {xs : List V} {ds : List D}, DpAll K H xs ds → ds.all flatD = true → inV x xs = ds.any fun z => PyData.eqv z a
  | _, _, .nil, _ => rfl
  | _, _, .cons (vs := vs) (ds := ds) h t, f => by
    rw [List.all_cons, Bool.and_eq_true] at f
    have ih := inV_eqv ha fa t f.2
    unfold inV at ih ⊢
    rw [List.any_cons, List.any_cons, ih, eqV_eqv h ha f.1 fa]
theorem rd_inT {neg : Bool} : RD K (rIn K neg) (dInT neg) := by
  refine ⟨fun {H T x y a b d} dis ha hb h Q q => ?_⟩
  unfold dInT at h
  split at h
  · rename_i ds
    split at h
    · rename_i c
      rw [Bool.and_eq_true] at c
      cases h
      obtain ⟨p, xs, rfl, hs, g⟩ := dp_tup hb
      refine ⟨p, xs, rfl, .inr (sqt_ov dis hs), flat_of ha c.1, flatA_of g c.2, ?_⟩
      rw [inV_eqv ha c.1 g c.2]
      exact q _ H (Same.refl H) dis (.bl _)
    · cases h
  · cases h
end
end DD

set_option Elab.async false
set_option linter.all false
set_option maxRecDepth 100000
set_option maxHeartbeats 4000000
namespace DD
open PySem PySem.Spec PyProof.Rows L2

/-! ### mirrors of statements -/
def sNext : En → Option Fl := fun ρ => some (.nx ρ)
def sSeq (a b : En → Option Fl) : En → Option Fl := fun ρ => (a ρ).bind fun f => match f with
  | .nx ρ' => b ρ'
  | f => some f
def sIf (c : En → Option Bool) (a b : En → Option Fl) : En → Option Fl := fun ρ => (c ρ).bind fun x => if x = true then a ρ else b ρ
def sRet (a : En → Option D) : En → Option Fl := fun ρ => (a ρ).map Fl.rt
def sDrop (a : En → Option D) : En → Option Fl := fun ρ => (a ρ).map fun _ => .nx ρ
def gSet (i : Nat) (d : D) (ρ : En) : Option En := some (ρ.set i (some (.val d)))
def sAsg (a : En → Option D) (g : D → En → Option En) : En → Option Fl := fun ρ => (a ρ).bind fun d => (g d ρ).map Fl.nx
def sOwn (i : Nat) (a : En → Option (List D)) : En → Option Fl := fun ρ => (a ρ).map fun ds => .nx (ρ.set i (some (.own ds)))
def sFrz (i : Nat) (a : En → Option Fl) : En → Option Fl := fun ρ => a (frz i ρ)
def sPar (i j : Nat) (a b : En → Option D) : En → Option Fl := fun ρ => (a ρ).bind fun x => (b ρ).map fun y => .nx ((ρ.set i (some (.val x))).set j (some (.val y)))
def sBrk : En → Option Fl := fun ρ => some (.bk ρ)
def sCnt : En → Option Fl := fun ρ => some (.ct ρ)
def sStop : En → Option Fl := fun _ => none
def loop (g : D → En → Option En) (b : En → Option Fl) : List D → En → Option Fl
  | [], ρ => some (.nx ρ)
  | d :: ds, ρ => (g d ρ).bind fun ρ1 => (b ρ1).bind fun f => match f with
    | .nx ρ2 => loop g b ds ρ2
    | .ct ρ2 => loop g b ds ρ2
    | .bk ρ2 => some (.nx ρ2)
    | .rt d => some (.rt d)
def sFor (it : En → Option (List D)) (g : D → En → Option En) (b : En → Option Fl) : En → Option Fl := fun ρ => (it ρ).bind fun ds => loop g b ds ρ
def whl (c : En → Option Bool) (b : En → Option Fl) : Nat → En → Option Fl
  | 0, _ => none
  | n + 1, ρ => (c ρ).bind fun x => if x = true then (b ρ).bind fun f => match f with
      | .nx ρ2 => whl c b n ρ2
      | .ct ρ2 => whl c b n ρ2
      | .bk ρ2 => some (.nx ρ2)
      | .rt d => some (.rt d)
    else some (.nx ρ)
def sWhile (fuel : En → Nat) (c : En → Option Bool) (b : En → Option Fl) : En → Option Fl := fun ρ => whl c b (fuel ρ) ρ
def sAppend (i : Nat) (a : En → Option D) : En → Option Fl := fun ρ => match ρ[i]? with
  | some (some (.own ds)) => (a ρ).bind fun d => if ds.length < cap then some (.nx (ρ.set i (some (.own (ds ++ [d]))))) else none
  | _ => none
def sExtend (i : Nat) (a : En → Option (List D)) : En → Option Fl := fun ρ => match ρ[i]? with
  | some (some (.own ds)) => (a ρ).bind fun es => if ds.length + es.length ≤ cap then some (.nx (ρ.set i (some (.own (ds ++ es))))) else none
  | _ => none

section
variable {K : PySem.W.Frag} {t u : TS} {te ta tb : TE} {ma mb : En → Option D} {m1 m2 : En → Option Fl}
theorem st_next : TSm K tNext sNext := ⟨fun {H0 T0 σ ρ H T f} G h E q => by cases h; exact q σ H T G⟩
theorem st_brk : TSm K tBreak sBrk := ⟨fun {H0 T0 σ ρ H T f} G h E q => by cases h; exact q σ H T G⟩
theorem st_cnt : TSm K tCont sCnt := ⟨fun {H0 T0 σ ρ H T f} G h E q => by cases h; exact q σ H T G⟩
theorem st_stop {t : TS} : TSm K t sStop := ⟨fun {H0 T0 σ ρ H T f} G h E q => by cases h⟩
theorem st_seq (h1 : TSm K t m1) (h2 : TSm K u m2) : TSm K (tSeq t u) (sSeq m1 m2) := by
  refine ⟨fun {H0 T0 σ ρ H T f} G h E q => ?_⟩
  obtain ⟨x, hx, h⟩ := bind_some h
  refine h1.run G hx _ ?_
  cases x with
  | nx ρ' => exact fun σ' H' T' G' => h2.run G' h E q
  | rt d => cases h; exact q
  | bk ρ' => cases h; exact q
  | ct ρ' => cases h; exact q
theorem FlOk.mono {H0 : Hp} {T0 : Ov} {E : Ends} {f : Fl} (h : FlOk K H0 T0 E f) : FlOk K H0 T0 E f := h
theorem st_if {tc : TT} {mc : En → Option Bool} (hc : TTm K tc mc) (h1 : TSm K t m1) (h2 : TSm K u m2) : TSm K (tIfS tc t u) (sIf mc m1 m2) := by
  refine ⟨fun {H0 T0 σ ρ H T f} G h E q => ?_⟩
  obtain ⟨x, hx, h⟩ := bind_some h
  refine hc.run G hx _ fun H1 s1 d1 => ?_
  cases x with
  | true =>
    rw [if_pos rfl] at h ⊢
    exact h1.run (G.mono s1 d1) h E q
  | false =>
    rw [if_neg Bool.false_ne_true] at h ⊢
    exact h2.run (G.mono s1 d1) h E q
theorem st_ret (ha : ET K te ma) : TSm K (tRet te) (sRet ma) := by
  refine ⟨fun {H0 T0 σ ρ H T f} G h E q => ?_⟩
  obtain ⟨x, hx, h⟩ := map_some h
  subst h
  exact ha.run G hx _ fun v H1 s1 d1 p1 => q v H1 T (G.ex.trans s1) d1 G.ext p1
theorem st_drop (ha : ET K te ma) : TSm K (tDrop te) (sDrop ma) := by
  refine ⟨fun {H0 T0 σ ρ H T f} G h E q => ?_⟩
  obtain ⟨x, hx, h⟩ := map_some h
  subst h
  exact ha.run G hx _ fun v H1 s1 d1 p1 => q σ H1 T (G.mono s1 d1)
theorem tg_name (i : Nat) {vs : List Nat} (hi : i ∈ vs) : TGm K vs (gName i) (gSet i) := by
  refine ⟨fun {H0 T0 σ ρ ρ2 H T v d} G g h Q q => ?_⟩
  cases h
  refine q _ H (G.set g) (Same.refl H) ?_
  have wset : ∀ (vs : List Nat) (σ : L2.St) (x : Option V), i ∈ vs → wipe (σ.set i x) vs = wipe σ vs := by
    intro vs
    induction vs with
    | nil => intro σ x h; cases h
    | cons j r ih =>
      intro σ x h
      show (wipe (σ.set i x) r).set j none = (wipe σ r).set j none
      rcases List.mem_cons.mp h with rfl | h
      · by_cases hr : i ∈ r
        · rw [ih σ x hr]
        · have : ∀ (r : List Nat) (σ : L2.St), i ∉ r → wipe (σ.set i x) r = (wipe σ r).set i x := by
            intro r
            induction r with
            | nil => intro σ _; rfl
            | cons k r ih2 =>
              intro σ h
              show (wipe (σ.set i x) r).set k none = ((wipe σ r).set k none).set i x
              rw [ih2 σ (fun z => h (List.mem_cons_of_mem _ z)), List.set_comm _ _ (fun z : i = k => h (by rw [z]; exact List.mem_cons_self))]
          rw [this r σ hr, List.set_set]
      · rw [ih σ x h]
  exact wset vs σ _ hi
theorem st_asg {vs : List Nat} {g : TG} {mg : D → En → Option En} (ha : ET K te ma) (hg : TGm K vs g mg) : TSm K (tAsg te g) (sAsg ma mg) := by
  refine ⟨fun {H0 T0 σ ρ H T f} G h E q => ?_⟩
  obtain ⟨x, hx, h⟩ := bind_some h
  obtain ⟨ρ2, h2, h⟩ := map_some h
  subst h
  exact ha.run G hx _ fun v H1 s1 d1 p1 => hg.run (G.mono s1 d1) p1 h2 _ fun σ2 H2 G2 _ _ => q σ2 H2 T G2
theorem st_set (i : Nat) (ha : ET K te ma) : TSm K (tAsg te (gName i)) (sAsg ma (gSet i)) := st_asg ha (tg_name i (vs := [i]) List.mem_cons_self)
theorem st_own (i : Nat) {m : En → Option (List D)} (ha : FL K te m) : TSm K (tAsg te (gName i)) (sOwn i m) := by
  refine ⟨fun {H0 T0 σ ρ H T f} G h E q => ?_⟩
  obtain ⟨ds, hd, h⟩ := map_some h
  subst h
  refine ha.run G hd _ fun p xs H1 s1 d1 n1 p1 => ?_
  rw [upd_put]
  exact q _ _ _ ((G.mono s1 d1).setOwn p1 n1)
theorem st_frz (i : Nat) (h1 : TSm K t m1) : TSm K t (sFrz i m1) := by
  refine ⟨fun {H0 T0 σ ρ H T f} G h E q => ?_⟩
  obtain ⟨H', T', G', e, _⟩ := G.freeze i
  rw [e]
  exact h1.run G' h E q
theorem st_par {i j : Nat} (ha : ET K ta ma) (hb : ET K tb mb) : TSm K (tPar i j (tCons ta (tCons tb tNil))) (sPar i j ma mb) := by
  refine ⟨fun {H0 T0 σ ρ H T f} G h E q => ?_⟩
  obtain ⟨x, hx, h⟩ := bind_some h
  obtain ⟨y, hy, h⟩ := map_some h
  subst h
  refine ha.run G hx _ fun v H1 s1 d1 p1 => ?_
  refine hb.run (G.mono s1 d1) hy _ fun w H2 s2 d2 p2 => ⟨v, w, rfl, ?_⟩
  exact q _ H2 T (((G.mono (s1.trans s2) d2).set (dp_mono s2 p1)).set p2)
theorem st_append {i : Nat} (ha : ET K te ma) : TSm K (tDrop (tBM K "list" rAppend (tVar i) (tCons te tNil))) (sAppend i ma) := by
  refine ⟨fun {H0 T0 σ ρ H T f} G h E q => ?_⟩
  unfold sAppend at h
  split at h
  · rename_i ds e
    obtain ⟨x, hx, h⟩ := bind_some h
    split at h
    · rename_i hz
      cases h
      obtain ⟨p, xs, a, b, c, g⟩ := G.own i ds e
      refine ⟨.ref p, a, .inl ⟨rfl, xs, SqL.of (ov_own b)⟩, ?_⟩
      refine ha.run G hx _ fun v H1 s1 d1 p1 => ?_
      refine ⟨p, xs, v, rfl, rfl, ov_own b, cap_lt (by rw [dpa_len g]; omega), ?_⟩
      rw [upd_put]
      exact q _ _ _ ((G.mono s1 d1).turn e a b (dpa_snoc (dpa_mono s1 g) p1))
    · cases h
  · cases h
theorem st_extend {i : Nat} {m : En → Option (List D)} (ha : FL K te m) : TSm K (tDrop (tBM K "list" rExtend (tVar i) (tCons te tNil))) (sExtend i m) := by
  refine ⟨fun {H0 T0 σ ρ H T f} G h E q => ?_⟩
  unfold sExtend at h
  split at h
  · rename_i ds e
    obtain ⟨es, hx, h⟩ := bind_some h
    split at h
    · rename_i hz
      cases h
      obtain ⟨p, xs, a, b, c, g⟩ := G.own i ds e
      refine ⟨.ref p, a, .inl ⟨rfl, xs, SqL.of (ov_own b)⟩, ?_⟩
      refine ha.run G hx _ fun r ys H1 s1 d1 n1 p1 => ?_
      obtain ⟨nT, nH⟩ := ov_free n1
      have ne : p ≠ r := fun z => by rw [← z, b] at nT; cases nT
      refine ⟨p, r, xs, ys, rfl, rfl, by rw [upd_ne ne]; exact ov_own b, upd_same, cap_line (by rw [dpa_len g, dpa_len p1]; exact hz), ?_⟩
      rw [upd_ov nT, upd_put]
      have s2 : Same H1 (upd H1 r (.lst ys)) := same_new nH
      exact q _ _ _ ((G.mono (s1.trans s2) (dis_upd d1 nT)).turn e a b (dpa_append (dpa_mono (s1.trans s2) g) (dpa_mono s2 p1)))
    · cases h
  · cases h
theorem st_for {wi : TI} {mi : En → Option (List D)} {vs : List Nat} {g : TG} {mg : D → En → Option En} (hi : IT K wi mi) (hg : TGm K vs g mg) (hb : TSm K t m1) : TSm K (tFor wi g t) (sFor mi mg m1) := by
  refine ⟨fun {H0 T0 σ ρ H T f} G h E q => ?_⟩
  obtain ⟨ds, hd, h⟩ := bind_some h
  refine hi.run G hd _ fun J Hm s1 d1 w => ?_
  refine ⟨fun i m σ Hc => i ≤ ds.length ∧ m = ds.length - i ∧ ∃ ρ H T, Hc = ov H T ∧ Good K H0 T0 σ ρ H T ∧ Same Hm H ∧ loop mg m1 (ds.drop i) ρ = some f, ⟨ds.length, Nat.zero_le _, rfl, ρ, Hm, T, rfl, G.mono s1 d1, Same.refl Hm, h⟩, ?_⟩
  rintro i m σ1 Hc ⟨hi, rfl, ρ1, H1, T1, rfl, G1, sm, hl⟩
  by_cases hlt : i < ds.length
  · have hge : ds[i]? = some ds[i] := List.getElem?_eq_getElem hlt
    rw [List.drop_eq_getElem_cons hlt] at hl
    obtain ⟨ρ2, h2, hl⟩ := bind_some hl
    obtain ⟨f3, h3, hl⟩ := bind_some hl
    refine .inr ⟨w.go i sm G1.dis hlt, fun σ' Hc' => ∃ ρ H T, Hc' = ov H T ∧ Good K H0 T0 σ' ρ H T ∧ Same Hm H ∧ loop mg m1 (ds.drop (i + 1)) ρ = some f, fun σ' Hc' ⟨ρ', H', T', e', G', s', l'⟩ => ⟨ds.length - (i + 1), by omega, by omega, rfl, ρ', H', T', e', G', s', l'⟩, fun x Hc' y => ?_⟩
    obtain ⟨H2, rfl, s2, d2, p2⟩ := w.yld i sm G1.dis hge y
    refine hg.run (G1.mono s2 d2) p2 h2 _ fun σ3 H3 G3 s3 _ => ?_
    refine hb.run (H0 := H3) (T0 := T0) (σ := σ3) (ρ := ρ2) (H := H3) (T := T1) ⟨G3.len, G3.val, G3.own, G3.inj, G3.dis, G3.ext, Same.refl H3⟩ h3 _ ?_
    have s03 : Same H0 H3 := G3.ex
    cases f3 with
    | nx ρ4 => exact fun σ4 H4 T4 G4 => ⟨ρ4, H4, T4, rfl, ⟨G4.len, G4.val, G4.own, G4.inj, G4.dis, G4.ext, s03.trans G4.ex⟩, (sm.trans (s2.trans s3)).trans G4.ex, hl⟩
    | ct ρ4 => exact fun σ4 H4 T4 G4 => ⟨ρ4, H4, T4, rfl, ⟨G4.len, G4.val, G4.own, G4.inj, G4.dis, G4.ext, s03.trans G4.ex⟩, (sm.trans (s2.trans s3)).trans G4.ex, hl⟩
    | bk ρ4 =>
      cases hl
      exact fun σ4 H4 T4 G4 => q σ4 H4 T4 ⟨G4.len, G4.val, G4.own, G4.inj, G4.dis, G4.ext, s03.trans G4.ex⟩
    | rt d =>
      cases hl
      exact fun v H4 T4 s4 d4 e4 p4 => q v H4 T4 (s03.trans s4) d4 e4 p4
  · have e : i = ds.length := by omega
    subst e
    rw [List.drop_length] at hl
    cases hl
    exact .inl ⟨w.stop sm G1.dis, q σ1 H1 T1 G1⟩
theorem st_while {tc : TT} {mc : En → Option Bool} (fuel : En → Nat) (hc : TTm K tc mc) (hb : TSm K t m1) : TSm K (tWhile tc t) (sWhile fuel mc m1) := by
  refine ⟨fun {H0 T0 σ ρ H T f} G h E q => ?_⟩
  refine ⟨fun m σ Hc => ∃ ρ H T, Hc = ov H T ∧ Good K H0 T0 σ ρ H T ∧ whl mc m1 m ρ = some f, ⟨fuel ρ, ρ, H, T, rfl, G, h⟩, ?_⟩
  rintro m σ1 Hc ⟨ρ1, H1, T1, rfl, G1, hw⟩
  cases m with
  | zero => cases hw
  | succ n =>
    obtain ⟨x, hx, hw⟩ := bind_some hw
    refine hc.run G1 hx _ fun H2 s2 d2 => ?_
    have G2 := G1.mono s2 d2
    cases x with
    | true =>
      rw [if_pos rfl] at hw ⊢
      obtain ⟨f3, h3, hl⟩ := bind_some hw
      refine ⟨fun σ' Hc' => ∃ ρ H T, Hc' = ov H T ∧ Good K H0 T0 σ' ρ H T ∧ whl mc m1 n ρ = some f, fun σ' Hc' h' => ⟨n, Nat.lt_succ_self n, h'⟩, ?_⟩
      refine hb.run G2 h3 _ ?_
      cases f3 with
      | nx ρ4 => exact fun σ4 H4 T4 G4 => ⟨ρ4, H4, T4, rfl, G4, hl⟩
      | ct ρ4 => exact fun σ4 H4 T4 G4 => ⟨ρ4, H4, T4, rfl, G4, hl⟩
      | bk ρ4 => cases hl; exact q
      | rt d => cases hl; exact q
    | false =>
      rw [if_neg Bool.false_ne_true] at hw ⊢
      cases hw
      exact q σ1 H2 T1 G2

/-! ### what is walked -/
def its : D → Option (List D)
  | .list ds => some ds
  | .tuple ds => some ds
  | .str z => some (z.cps.toList.map fun c => .str ⟨#[c]⟩)
  | _ => none
def mIter (a : En → Option D) : En → Option (List D) := fun ρ => (a ρ).bind its
def iAny (K : PySem.W.Frag) (te : TE) : TI := fun σ H R => te σ H fun x H1 => (∃ a, x = .ref a ∧ (∃ xs, SqL K H1 a xs) ∧ R (Itl K a) H1) ∨ (∃ a, x = .ref a ∧ (∃ xs, SqT K H1 a xs) ∧ R (Itt K a) H1) ∨ ∃ z, x = .str z ∧ R (Its z) H1
theorem pi_any {X : Cx} {tg l : Expr} {tl : TE} (hl : PE X l tl) : PI X tg l (iAny X.K tl) := by
  refine ⟨fun pins s σ H R I h => ?_⟩
  refine thn (hl.run pins s σ H _ I h) fun v s1 ⟨x, H1, I1, r1, q1⟩ => ?_
  rcases q1 with ⟨a, e, ⟨xs, hq⟩, q⟩ | ⟨a, e, ⟨xs, hq⟩, q⟩ | ⟨z, e, q⟩
  · subst e
    cases r1
    obtain ⟨its, rv, p, hz⟩ := I1.list hq
    refine wpAny_pyIter_list p.isList ?_
    refine ⟨s1.heap.objs.size, [s1.heap.objs.size], _, _, H1, rfl, I1.kept (t' := s1.toks) fun b o e => Heap.get?_push_of_some _ e, turn_list a _, ⟨_, Heap.get?_push_size _ rfl, rfl, rfl⟩, fun b hb => ?_, q⟩
    have e : b = s1.heap.objs.size := by simpa using hb
    subst e
    exact I1.fpOk (Nat.le_refl _) (I1.hok.fresh (Nat.le_refl _))
  · subst e
    cases r1
    obtain ⟨its, rv, p, hz⟩ := I1.tuple hq
    refine wpAny_pyIter_tuple (show s1.heap.IsTuple a its.toArray from p) ?_
    refine ⟨s1.heap.objs.size, [s1.heap.objs.size], _, _, H1, rfl, I1.kept (t' := s1.toks) fun b o e => Heap.get?_push_of_some _ e, turn_tuple a _, ⟨_, Heap.get?_push_size _ rfl, rfl, rfl⟩, fun b hb => ?_, q⟩
    have e : b = s1.heap.objs.size := by simpa using hb
    subst e
    exact I1.fpOk (Nat.le_refl _) (I1.hok.fresh (Nat.le_refl _))
  · subst e
    obtain ⟨t, rfl⟩ := r1
    cases ha : z.cps.all (· < 128)
    · exact wpAny_pyIter_wide ha (pi_one (tk := s1.toks) I1 _ (turn_str _ z t "str_iterator" (.inr rfl)) ⟨_, Heap.get?_push_size _ rfl, rfl, rfl⟩ q)
    · exact wpAny_pyIter_ascii ha (pi_one (tk := s1.toks) I1 _ (turn_str _ z t "str_ascii_iterator" (.inl rfl)) ⟨_, Heap.get?_push_size _ rfl, rfl, rfl⟩ q)
theorem it_any {ma : En → Option D} (ha : ET K te ma) : IT K (iAny K te) (mIter ma) := by
  refine ⟨fun {H0 T0 σ ρ H T ds} G h R q => ?_⟩
  obtain ⟨x, hx, h⟩ := bind_some h
  refine ha.run G hx _ fun v H1 s1 d1 p1 => ?_
  unfold its at h
  split at h
  · cases h
    obtain ⟨p, xs, rfl, hs, g⟩ := dp_lst p1
    refine .inl ⟨p, rfl, ⟨xs, sql_ov d1 hs⟩, q _ H1 s1 d1 ⟨fun {H T} i sm dis hi => ?_, fun {H T} sm dis => ?_, fun {H T} i {x Hc d} sm dis hd y => ?_⟩⟩
    · rw [← dpa_len g] at hi
      exact ⟨xs, xs[i], sql_ov dis (sm.seq hs), by simp [hi]⟩
    · exact ⟨xs, sql_ov dis (sm.seq hs), by rw [dpa_len g]; exact Nat.le_refl _⟩
    · obtain ⟨rfl, y⟩ := y
      obtain ⟨w, hw, gw⟩ := dpa_get g hd
      have := y xs (sql_ov dis (sm.seq hs))
      rw [hw] at this
      cases this
      exact ⟨H, rfl, Same.refl H, dis, dp_mono sm gw⟩
  · cases h
    obtain ⟨p, xs, rfl, hs, g⟩ := dp_tup p1
    refine .inr (.inl ⟨p, rfl, ⟨xs, sqt_ov d1 hs⟩, q _ H1 s1 d1 ⟨fun {H T} i sm dis hi => ?_, fun {H T} sm dis => ?_, fun {H T} i {x Hc d} sm dis hd y => ?_⟩⟩)
    · rw [← dpa_len g] at hi
      exact ⟨xs, xs[i], sqt_ov dis (Same.sqt sm hs), by simp [hi]⟩
    · exact ⟨xs, sqt_ov dis (Same.sqt sm hs), by rw [dpa_len g]; exact Nat.le_refl _⟩
    · obtain ⟨rfl, y⟩ := y
      obtain ⟨w, hw, gw⟩ := dpa_get g hd
      have := y xs (sqt_ov dis (Same.sqt sm hs))
      rw [hw] at this
      cases this
      exact ⟨H, rfl, Same.refl H, dis, dp_mono sm gw⟩
  · rename_i z
    cases h
    refine .inr (.inr ⟨z, dp_str p1, q _ H1 s1 d1 ⟨fun {H T} i sm dis hi => ?_, fun {H T} sm dis => ?_, fun {H T} i {x Hc d} sm dis hd y => ?_⟩⟩)
    · rw [List.length_map, Array.length_toList] at hi
      exact hi
    · show z.cps.size ≤ _
      rw [List.length_map, Array.length_toList]
      exact Nat.le_refl _
    · obtain ⟨rfl, c, hc, rfl⟩ := y
      rw [List.getElem?_map, Array.getElem?_toList, hc] at hd
      cases hd
      exact ⟨H, rfl, Same.refl H, dis, .str _⟩
  · cases h
/-- range(n), range(a, b) -/
def upto (lo : Int) (n : Nat) : List D := (List.range n).map fun (i : Nat) => PyData.int (lo + (i : Int))
def mRange (a : En → Option (List D)) : En → Option (List D) := fun ρ => (a ρ).bind fun ds => match ds with
  | [.int j] => if -(2 ^ 62) ≤ j ∧ j < 2 ^ 62 then some (upto 0 j.toNat) else none
  | [.int i, .int j] => if -(2 ^ 62) ≤ i ∧ i < 2 ^ 62 ∧ -(2 ^ 62) ≤ j ∧ j < 2 ^ 62 then some (upto i (j - i).toNat) else none
  | _ => none
theorem wk_range {Hm : Hp} {lo : Int} {n : Nat} : Wk K (Itr lo n) Hm (upto lo n) := by
  refine ⟨fun {H T} i sm dis hi => ?_, fun {H T} sm dis => ?_, fun {H T} i {x Hc d} sm dis hd y => ?_⟩
  · unfold upto at hi
    rw [List.length_map, List.length_range] at hi
    exact hi
  · unfold upto
    rw [List.length_map, List.length_range]
    exact Nat.le_refl _
  · obtain ⟨rfl, rfl⟩ := y
    unfold upto at hd
    rw [List.getElem?_map] at hd
    by_cases hi : i < n
    · rw [List.getElem?_range hi] at hd
      cases hd
      exact ⟨H, rfl, Same.refl H, dis, .int _⟩
    · rw [List.getElem?_eq_none (by simpa using hi)] at hd
      cases hd
theorem it_range1 {ta : TA} {m : En → Option (List D)} (ha : TAm K ta m) : IT K (iRng1 ta) (mRange fun ρ => (m ρ).bind fun ds => if ds.length = 1 then some ds else none) := by
  refine ⟨fun {H0 T0 σ ρ H T ds} G h R q => ?_⟩
  obtain ⟨x, hx, h⟩ := bind_some h
  obtain ⟨y, hy, hx⟩ := bind_some hx
  split at hx
  · rename_i hl
    cases hx
    refine ha.run G hy _ fun vs H1 s1 d1 p1 => ?_
    split at h
    · split at h
      · rename_i hb
        cases h
        obtain ⟨v, rfl, g⟩ := dpa_one p1
        cases dp_int g
        exact ⟨_, rfl, hb.1, hb.2, q _ H1 s1 d1 wk_range⟩
      · cases h
    · cases hl
    · cases h
  · cases hx
theorem it_range2 {ta : TA} {m : En → Option (List D)} (ha : TAm K ta m) : IT K (iRng2 ta) (mRange fun ρ => (m ρ).bind fun ds => if ds.length = 2 then some ds else none) := by
  refine ⟨fun {H0 T0 σ ρ H T ds} G h R q => ?_⟩
  obtain ⟨x, hx, h⟩ := bind_some h
  obtain ⟨y, hy, hx⟩ := bind_some hx
  split at hx
  · rename_i hl
    cases hx
    refine ha.run G hy _ fun vs H1 s1 d1 p1 => ?_
    split at h
    · cases hl
    · split at h
      · rename_i hb
        cases h
        obtain ⟨u, v, rfl, g1, g2⟩ := dpa_two p1
        cases dp_int g1
        cases dp_int g2
        exact ⟨_, _, rfl, hb, q _ H1 s1 d1 wk_range⟩
      · cases h
    · cases h
  · cases hx

/-! ### targets of several names -/
def gNilM (ds : List D) (ρ : En) : Option En := match ds with
  | [] => some ρ
  | _ => none
def gConsM (g : D → En → Option En) (r : List D → En → Option En) (ds : List D) (ρ : En) : Option En := match ds with
  | d :: es => (g d ρ).bind fun ρ1 => r es ρ1
  | [] => none
def gTupM (n : Nat) (g : List D → En → Option En) (d : D) (ρ : En) : Option En := match d with
  | .tuple ds => if ds.length = n then g ds ρ else none
  | _ => none
theorem tgs_nil {vs : List Nat} : TGsm K vs gNil gNilM := by
  refine ⟨fun {H0 T0 σ ρ ρ2 H T xs ds} G g h Q q => ?_⟩
  unfold gNilM at h
  split at h
  · cases h
    cases g
    exact ⟨rfl, q σ H G (Same.refl H) rfl⟩
  · cases h
theorem tgs_cons {vs : List Nat} {g : TG} {gs : TGs} {mg : D → En → Option En} {mr : List D → En → Option En} (h1 : TGm K vs g mg) (h2 : TGsm K vs gs mr) : TGsm K vs (gCons g gs) (gConsM mg mr) := by
  refine ⟨fun {H0 T0 σ ρ ρ2 H T xs ds} G g h Q q => ?_⟩
  unfold gConsM at h
  split at h
  · obtain ⟨ρ1, e1, h⟩ := bind_some h
    cases g with
    | cons a b =>
      refine ⟨_, _, rfl, ?_⟩
      refine h1.run G a e1 _ fun σ2 H2 G2 s2 w2 => ?_
      exact h2.run G2 (dpa_mono s2 b) h _ fun σ3 H3 G3 s3 w3 => q σ3 H3 G3 (s2.trans s3) (w3.trans w2)
  · cases h
theorem tg_tup {vs : List Nat} {n : Nat} {gs : TGs} {mr : List D → En → Option En} (h : TGsm K vs gs mr) : TGm K vs (gTup K n gs) (gTupM n mr) := by
  refine ⟨fun {H0 T0 σ ρ ρ2 H T v d} G g e Q q => ?_⟩
  unfold gTupM at e
  split at e
  · split at e
    · rename_i hn
      obtain ⟨p, xs, rfl, hs, ga⟩ := dp_tup g
      exact ⟨p, xs, rfl, sqt_ov G.dis hs, by rw [dpa_len ga]; exact hn, h.run G ga e Q q⟩
    · cases e
  · cases e

/-! ### comprehensions -/
def wipeM (ρ : En) : List Nat → En
  | [] => ρ
  | v :: vs => (wipeM ρ vs).set v none
def coll (g : D → En → Option En) (c : En → Option Bool) (e : En → Option D) (ρ : En) : List D → Option (List D)
  | [] => some []
  | d :: ds => (g d ρ).bind fun ρ1 => (c ρ1).bind fun b => if b = true then (e ρ1).bind fun x => (coll g c e ρ ds).map fun r => x :: r else coll g c e ρ ds
def mLc (it : En → Option (List D)) (g : D → En → Option En) (c : En → Option Bool) (e : En → Option D) (vs : List Nat) : En → Option (List D) := fun ρ => (it ρ).bind fun ds => if ds.length ≤ cap then coll g c e (wipeM ρ vs) ds else none
def mYes : En → Option Bool := fun _ => some true
theorem et_yes : TTm K tYes mYes := ⟨fun {H0 T0 σ ρ H T b} G h Q q => by cases h; exact q H (Same.refl H) G.dis⟩
theorem Good.drop {K : PySem.W.Frag} {H0 H : Hp} {T0 T : Ov} {σ : L2.St} {ρ : En} (i : Nat) (G : Good K H0 T0 σ ρ H T) : Good K H0 T0 (σ.set i none) (ρ.set i none) H T := by
  refine ⟨by rw [List.length_set, List.length_set]; exact G.len, fun j x h => ?_, fun j x h => ?_, fun j k ds es p h1 h2 h3 h4 => ?_, G.dis, G.ext, G.ex⟩
  · rcases get_set h with ⟨_, q, _⟩ | ⟨e, q⟩
    · cases q
    · obtain ⟨w, a, b⟩ := G.val j x q
      exact ⟨w, by rw [List.getElem?_set_ne (Ne.symm e)]; exact a, b⟩
  · rcases get_set h with ⟨_, q, _⟩ | ⟨e, q⟩
    · cases q
    · obtain ⟨p, xs, a, b⟩ := G.own j x q
      exact ⟨p, xs, by rw [List.getElem?_set_ne (Ne.symm e)]; exact a, b⟩
  · rcases get_set h1 with ⟨_, q, _⟩ | ⟨e1, q1⟩
    · cases q
    · rcases get_set h2 with ⟨_, q, _⟩ | ⟨e2, q2⟩
      · cases q
      · rw [List.getElem?_set_ne (Ne.symm e1)] at h3
        rw [List.getElem?_set_ne (Ne.symm e2)] at h4
        exact G.inj j k ds es p q1 q2 h3 h4
theorem Good.wipe {K : PySem.W.Frag} {H0 H : Hp} {T0 T : Ov} {σ : L2.St} {ρ : En} (G : Good K H0 T0 σ ρ H T) : ∀ vs : List Nat, Good K H0 T0 (wipe σ vs) (wipeM ρ vs) H T
  | [] => G
  | v :: vs => (Good.wipe G vs).drop v
theorem wipe_wipe (σ : L2.St) (vs : List Nat) : wipe (wipe σ vs) vs = wipe σ vs := by
  apply List.ext_getElem?
  intro i
  have key : ∀ (vs : List Nat) (σ : L2.St), (wipe σ vs)[i]? = if i ∈ vs then (if i < σ.length then some none else none) else σ[i]? := by
    intro vs
    induction vs with
    | nil => intro σ; simp [L2.wipe]
    | cons v r ih =>
      intro σ
      show ((L2.wipe σ r).set v none)[i]? = _
      by_cases h : v = i
      · subst h
        rw [List.getElem?_set]
        simp [wipe_length]
      · rw [List.getElem?_set_ne h, ih σ]
        have : (i ∈ v :: r) ↔ i ∈ r := by simp [Ne.symm h]
        simp only [this]
  rw [key vs (wipe σ vs), key vs σ, wipe_length]
  split <;> rfl
/-- one list more of one's own, known to no slot -/
theorem Good.more {K : PySem.W.Frag} {H0 H : Hp} {T0 T : Ov} {σ : L2.St} {ρ : En} {p : Addr} {xs : List V} (G : Good K H0 T0 σ ρ H T) (hp : ov H T p = none) : Good K H0 T0 σ ρ H (put T p xs) := by
  obtain ⟨hT, hH⟩ := ov_free hp
  have ne : ∀ a ys, T a = some ys → a ≠ p := fun a ys e z => by rw [z, hT] at e; cases e
  exact ⟨G.len, G.val, fun i ds h => let ⟨r, ys, a, b, c⟩ := G.own i ds h; ⟨r, ys, a, by rw [put_ne (ne r ys b)]; exact b, c⟩, G.inj, dis_put G.dis hH, fun a ys e => by rw [put_ne (ne a ys (G.ext a ys e))]; exact G.ext a ys e, G.ex⟩
theorem put_put {T : Ov} {p : Addr} {xs ys : List V} : put (put T p xs) p ys = put T p ys := by
  funext a
  unfold put
  split <;> rfl
theorem fl_lc {wi : TI} {g : TG} {tt : TT} {te : TE} {vs : List Nat} {mi : En → Option (List D)} {mg : D → En → Option En} {mc : En → Option Bool} {me : En → Option D}
    (hi : IT K wi mi) (hg : TGm K vs g mg) (ht : TTm K tt mc) (he : ET K te me) : FL K (tLc wi g tt te vs) (mLc mi mg mc me vs) := by
  refine ⟨fun {H0 T0 σ ρ H T out} G h Q q => ?_⟩
  obtain ⟨ds, hd, h⟩ := bind_some h
  split at h
  · rename_i hz
    refine hi.run G hd _ fun J Hm s1 d1 w => ?_
    intro Dl hD
    obtain ⟨nT, nH⟩ := ov_free hD
    have G1 := (G.mono s1 d1).wipe vs
    refine ⟨fun i m Hc => i ≤ ds.length ∧ m = ds.length - i ∧ ∃ H1 acc as r, Hc = ov H1 (put T Dl acc) ∧ Same Hm H1 ∧ Dis H1 T ∧ H1 Dl = none ∧ DpAll K H1 acc as ∧ acc.length ≤ i ∧ coll mg mc me (wipeM ρ vs) (ds.drop i) = some r ∧ out = as ++ r,
      ⟨ds.length, Nat.zero_le _, rfl, Hm, [], [], out, by rw [upd_put], Same.refl Hm, d1, nH, .nil, Nat.le_refl _, h, rfl⟩, ?_⟩
    rintro i m Hc ⟨hil, rfl, H1, acc, as, r, rfl, sm, dis, nD, ga, hac, hc, eo⟩
    have dput : Dis H1 (put T Dl acc) := dis_put dis nD
    by_cases hlt : i < ds.length
    · have hge : ds[i]? = some ds[i] := List.getElem?_eq_getElem hlt
      rw [List.drop_eq_getElem_cons hlt] at hc
      obtain ⟨ρ2, h2, hc⟩ := bind_some hc
      obtain ⟨b, hb, hc⟩ := bind_some hc
      refine .inr ⟨w.go i sm dput hlt, fun Hc' => ∃ H1 acc as r, Hc' = ov H1 (put T Dl acc) ∧ Same Hm H1 ∧ Dis H1 T ∧ H1 Dl = none ∧ DpAll K H1 acc as ∧ acc.length ≤ i + 1 ∧ coll mg mc me (wipeM ρ vs) (ds.drop (i + 1)) = some r ∧ out = as ++ r,
        fun Hc' ⟨H1, acc, as, r, a1, a2, a3, a4, a5, a6, a7, a8⟩ => ⟨ds.length - (i + 1), by omega, by omega, rfl, H1, acc, as, r, a1, a2, a3, a4, a5, a6, a7, a8⟩, fun x Hc' y => ?_⟩
      obtain ⟨H2, rfl, s2, d2, p2⟩ := w.yld i sm dput hge y
      have fr : ∀ {H' : Hp}, Dis H' (put T Dl acc) → Dis H' T ∧ H' Dl = none := fun {H'} d => ⟨fun a xs e => by
        by_cases z : a = Dl
        · rw [z, nT] at e; cases e
        · exact d a xs (by rw [put_ne z]; exact e), d Dl acc put_same⟩
      have G2 : Good K H0 T0 (L2.wipe σ vs) (wipeM ρ vs) H2 (put T Dl acc) := (((G.mono s1 d1).wipe vs).more hD).mono (sm.trans s2) d2
      refine hg.run G2 p2 h2 _ fun σ3 H3 G3 s3 w3 => ⟨by rw [w3, wipe_wipe], ?_⟩
      refine ht.run G3 hb _ fun H4 s4 d4 => ?_
      have G4 := G3.mono s4 d4
      cases b with
      | true =>
        rw [if_pos rfl] at hc ⊢
        obtain ⟨z, hz2, hc⟩ := bind_some hc
        obtain ⟨r', hr, hc⟩ := map_some hc
        refine he.run G4 hz2 _ fun v H5 s5 d5 p5 => ?_
        obtain ⟨dT, dn⟩ := fr d5
        refine ⟨acc, ov_own put_same, cap_lt (Nat.le_trans hac (Nat.le_trans (Nat.le_of_lt hlt) hz)), H5, acc ++ [v], as ++ [z], r', by rw [upd_put, put_put], (sm.trans s2).trans ((s3.trans s4).trans s5), dT, dn, dpa_snoc (dpa_mono (s2.trans ((s3.trans s4).trans s5)) ga) p5, by rw [List.length_append, List.length_singleton]; omega, hr, ?_⟩
        rw [eo, ← hc, List.append_assoc]
        rfl
      | false =>
        rw [if_neg Bool.false_ne_true] at hc ⊢
        obtain ⟨dT, dn⟩ := fr d4
        exact ⟨H4, acc, as, r, rfl, (sm.trans s2).trans (s3.trans s4), dT, dn, dpa_mono (s2.trans (s3.trans s4)) ga, by omega, hc, eo⟩
    · have e : i = ds.length := by omega
      subst e
      rw [List.drop_length] at hc
      cases hc
      rw [List.append_nil] at eo
      subst eo
      refine .inl ⟨w.stop sm dput, ?_⟩
      rw [← upd_put]
      have hfree : ov H1 T Dl = none := by rw [ov_none nT]; exact nD
      exact q Dl acc H1 (s1.trans sm) dis hfree ga
  · cases h

/-! ### a def -/
def start0 (N : Nat) (ds : List D) : En := ds.map (fun d => some (.val d)) ++ List.replicate (N - ds.length) none
def mDef (N : Nat) (b : En → Option Fl) (ds : List D) : Option D := (b (start0 N ds)).bind fun f => match f with
  | .rt d => some d
  | .nx _ => some .none
  | _ => none
theorem good_start {N : List Str} {vs : List V} {ds : List D} {H : Hp} {T : Ov} (h : DpAll K H vs ds) (d : Dis H T) : Good K H T (start N vs) (start0 N.length ds) H T := by
  have hl := dpa_len h
  have at0 : ∀ (i : Nat) (s : Sl), (start0 N.length ds)[i]? = some (some s) → ∃ d, ds[i]? = some d ∧ s = .val d := by
    intro i s e
    unfold start0 at e
    by_cases hi : i < ds.length
    · rw [List.getElem?_append_left (by simpa using hi), List.getElem?_map, List.getElem?_eq_getElem hi] at e
      cases e
      exact ⟨ds[i], List.getElem?_eq_getElem hi, rfl⟩
    · rw [List.getElem?_append_right (by simpa using hi), List.getElem?_replicate] at e
      split at e <;> cases e
  refine ⟨?_, fun i x e => ?_, fun i x e => ?_, fun i j as bs p e1 e2 _ _ => ?_, d, fun a xs e => e, Same.refl H⟩
  · unfold L2.start start0
    rw [List.length_append, List.length_append, List.length_map, List.length_map, List.length_replicate, List.length_replicate, hl]
  · obtain ⟨d, hd, es⟩ := at0 i _ e
    cases es
    obtain ⟨v, hv, g⟩ := dpa_get h hd
    refine ⟨v, ?_, g⟩
    unfold L2.start
    rw [List.getElem?_append_left (by rw [List.length_map]; exact (List.getElem?_eq_some_iff.mp hv).1), List.getElem?_map, hv]
    rfl
  · obtain ⟨d, hd, es⟩ := at0 i _ e
    cases es
  · obtain ⟨d, hd, es⟩ := at0 i _ e1
    cases es
/-- the caller's lists out of the way again -/
theorem back {H0 H : Hp} {T0 T : Ov} (d0 : Dis H0 T0) (s : Same H0 H) (d : Dis H T) (e : Ext T0 T) : ∃ H', ov H T = ov H' T0 ∧ Same H0 H' ∧ Dis H' T0 ∧ Same H H' := by
  refine ⟨fun a => match T0 a with | some _ => none | none => ov H T a, ?_, fun a o h => ?_, fun a xs h => ?_, fun a o h => ?_⟩
  · funext a
    cases q : T0 a with
    | some xs => rw [ov_own q, ov_own (e a xs q)]
    | none =>
      rw [ov_none q]
      show ov H T a = match T0 a with | some _ => none | none => ov H T a
      rw [q]
  · have q : T0 a = none := by
      cases q : T0 a with
      | none => rfl
      | some xs => have := d0 a xs q; rw [h] at this; cases this
    show (match T0 a with | some _ => none | none => ov H T a) = some o
    rw [q]
    exact same_ov d a o (s a o h)
  · show (match T0 a with | some _ => none | none => ov H T a) = none
    rw [h]
  · have q : T0 a = none := by
      cases q : T0 a with
      | none => rfl
      | some xs => have := d a xs (e a xs q); rw [h] at this; cases this
    show (match T0 a with | some _ => none | none => ov H T a) = some o
    rw [q]
    exact same_ov d a o h
theorem def_ok {P : Program} {w : World} {mg : Str → Option Value} {base : Heap} {x qual : Str} {st : Stmt} {f : Addr} {fd : FuncData} {N ps : List Str} {k : Nat} {mb : En → Option Fl} (F : Fun K x qual st f fd) (S : FnScope N ps (defScope st))
    (hbody : ∀ (cdv : Value) (A : Around) (outer : List Env) (s : Shared) (H : Hp) (E : XK), Room k (A.deeper (envOfC qual (defScope st) s.heap.objs.size f cdv)) →
      ∃ t, PSs (cxOf CX0 P w K mg base N qual (defScope st) f cdv A outer s H E).nox (defBody st) t ∧ TSm K t mb) : FnOk P w K mg base CX0 (k + 1) f fd ps (spM K ps.length (mDef N.length mb)) := by
  refine F.ok S (fun vs H Q E h => ?_) (fun cdv A outer s Hx vs Q E hr h => ?_)
  · obtain ⟨ds, d, H, T, g, hn, _⟩ := h
    rw [dpa_len g, hn]
  · obtain ⟨ds, d, H, T, g, hn, hm, rfl, dis, q⟩ := h
    obtain ⟨t, p, m⟩ := hbody cdv A outer s (ov H T) E hr
    refine ⟨t, p, ?_⟩
    obtain ⟨fl, hf, hm⟩ := bind_some hm
    refine m.run (good_start g dis) hf _ ?_
    cases fl with
    | rt d' =>
      cases hm
      intro v H' T' s1 d1 e1 p1
      obtain ⟨H2, e2, s2, d2, s3⟩ := back dis s1 d1 e1
      show Q v (ov H' T')
      rw [e2]
      exact q v H2 s2 d2 (dp_mono s3 p1)
    | nx ρ =>
      cases hm
      intro σ' H' T' G'
      obtain ⟨H2, e2, s2, d2, s3⟩ := back dis G'.ex G'.dis G'.ext
      show Q .non (ov H' T')
      rw [e2]
      exact q _ H2 s2 d2 .non
    | bk ρ => cases hm
    | ct ρ => cases hm
end
end DD

set_option Elab.async false
set_option linter.all false
set_option maxRecDepth 100000
set_option maxHeartbeats 4000000
namespace DD
open PySem PySem.Spec PyProof.Rows L2
def dLt : D → D → Option D := dCmp fun i j => decide (i < j)
def dLe : D → D → Option D := dCmp fun i j => decide (i ≤ j)
def dGt : D → D → Option D := dCmp fun i j => decide (j < i)
def dGe : D → D → Option D := dCmp fun i j => decide (j ≤ i)
def lim (n : Nat) (m : List D → Option D) : List D → Option D := fun ds => if ds.length = n then m ds else none
def mRange1 (m : En → Option (List D)) : En → Option (List D) := mRange fun ρ => (m ρ).bind fun ds => if ds.length = 1 then some ds else none
def mRange2 (m : En → Option (List D)) : En → Option (List D) := mRange fun ρ => (m ρ).bind fun ds => if ds.length = 2 then some ds else none
def mIfL (c : En → Option Bool) (a b : En → Option (List D)) : En → Option (List D) := fun ρ => (c ρ).bind fun x => if x = true then a ρ else b ρ
def mStar (a : En → Option D) (b : En → Option (List D)) : En → Option (List D) := fun ρ => (a ρ).bind fun x => match x with
  | .list ds => (b ρ).map fun r => ds ++ r
  | .tuple ds => (b ρ).map fun r => ds ++ r
  | _ => none
def gLstM (n : Nat) (g : List D → En → Option En) (d : D) (ρ : En) : Option En := match d with
  | .list ds => if ds.length = n then g ds ρ else none
  | _ => none
def sPar3 (i j l : Nat) (a b c : En → Option D) : En → Option Fl := fun ρ => (a ρ).bind fun x => (b ρ).bind fun y => (c ρ).map fun z => .nx (((ρ.set i (some (.val x))).set j (some (.val y))).set l (some (.val z)))
def mCatL (a b : En → Option (List D)) : En → Option (List D) := fun ρ => (a ρ).bind fun x => (b ρ).bind fun y => if x.length + y.length ≤ cap then some (x ++ y) else none
section
variable {K : PySem.W.Frag} {te ta tb tc : TE} {ma mb mc : En → Option D}
theorem rd_lt' : RD K (rI0 fun i j => .bl (decide (i < j))) dLt := rd_lt
theorem rd_le' : RD K (rI0 fun i j => .bl (decide (i ≤ j))) dLe := rd_le
theorem rd_gt' : RD K (rI0 fun i j => .bl (decide (j < i))) dGt := rd_gt
theorem rd_ge' : RD K (rI0 fun i j => .bl (decide (j ≤ i))) dGe := rd_ge
theorem hu65 {A : Around} {k : Nat} (hr : Room k A) : A.units + 65 < cLine := by have := hr.un; omega
theorem pt_tr {X : Cx} {a : Expr} {ta : TE} (ha : PE X a ta) (he : ∀ whole, isTrue a X.env whole = (do let v ← whole; standAt a.pos; holding [v] (truthy v))) : PT X a (tTru X.K ta) := pt_truth ha he
theorem ev_call' {n : Nat} {mf : List D → Option D} {t : TA} {m : En → Option (List D)} {E : XK} (ha : TAm K t m) : ET K (tCall (spM K n mf) [] E t) (mCall (lim n mf) m) := ev_call ha
theorem it_range1' {t : TA} {m : En → Option (List D)} (ha : TAm K t m) : IT K (iRng1 t) (mRange1 m) := it_range1 ha
theorem it_range2' {t : TA} {m : En → Option (List D)} (ha : TAm K t m) : IT K (iRng2 t) (mRange2 m) := it_range2 ha
theorem fl_if {tt : TT} {m1 : En → Option Bool} {m2 m3 : En → Option (List D)} (hc : TTm K tt m1) (ha : FL K ta m2) (hb : FL K tb m3) : FL K (tIf tt ta tb) (mIfL m1 m2 m3) := by
  refine ⟨fun {H0 T0 σ ρ H T d} G h Q q => ?_⟩
  obtain ⟨x, hx, h⟩ := bind_some h
  refine hc.run G hx _ fun H1 s1 d1 => ?_
  cases x with
  | true =>
    rw [if_pos rfl] at h ⊢
    exact ha.run (G.mono s1 d1) h _ fun p xs H2 s2 d2 n2 p2 => q p xs H2 (s1.trans s2) d2 n2 p2
  | false =>
    rw [if_neg Bool.false_ne_true] at h ⊢
    exact hb.run (G.mono s1 d1) h _ fun p xs H2 s2 d2 n2 p2 => q p xs H2 (s1.trans s2) d2 n2 p2
theorem ea_star {t : TA} {m : En → Option (List D)} (ha : ET K ta ma) (hr : TAm K t m) : TAm K (StX.tStar K ta t) (mStar ma m) := by
  refine ⟨fun {H0 T0 σ ρ H T ds} G h Q q => ?_⟩
  obtain ⟨x, hx, h⟩ := bind_some h
  refine ha.run G hx _ fun v H1 s1 d1 p1 => ?_
  split at h
  · obtain ⟨r, hr2, h⟩ := map_some h
    subst h
    obtain ⟨p, xs, rfl, hs, g⟩ := dp_lst p1
    refine ⟨p, xs, rfl, .inr (sql_ov d1 hs), ?_⟩
    exact hr.run (G.mono s1 d1) hr2 _ fun vs H2 s2 d2 p2 => q _ H2 (s1.trans s2) d2 (dpa_append (dpa_mono s2 g) p2)
  · obtain ⟨r, hr2, h⟩ := map_some h
    subst h
    obtain ⟨p, xs, rfl, hs, g⟩ := dp_tup p1
    refine ⟨p, xs, rfl, .inl (sqt_ov d1 hs), ?_⟩
    exact hr.run (G.mono s1 d1) hr2 _ fun vs H2 s2 d2 p2 => q _ H2 (s1.trans s2) d2 (dpa_append (dpa_mono s2 g) p2)
  · cases h
theorem st_par3 {i j l : Nat} (ha : ET K ta ma) (hb : ET K tb mb) (hc : ET K tc mc) : TSm K (tPar3 i j l (tCons ta (tCons tb (tCons tc tNil)))) (sPar3 i j l ma mb mc) := by
  refine ⟨fun {H0 T0 σ ρ H T f} G h E q => ?_⟩
  obtain ⟨x, hx, h⟩ := bind_some h
  obtain ⟨y, hy, h⟩ := bind_some h
  obtain ⟨z, hz, h⟩ := map_some h
  subst h
  refine ha.run G hx _ fun v H1 s1 d1 p1 => ?_
  refine hb.run (G.mono s1 d1) hy _ fun w H2 s2 d2 p2 => ?_
  refine hc.run (G.mono (s1.trans s2) d2) hz _ fun u H3 s3 d3 p3 => ⟨v, w, u, rfl, ?_⟩
  exact q _ H3 T ((((G.mono ((s1.trans s2).trans s3) d3).set (dp_mono (s2.trans s3) p1)).set (dp_mono s3 p2)).set p3)
end
end DD
namespace DD
open PySem PySem.Spec PyProof.Rows L2
def fuelOf (i : Nat) (ρ : En) : Nat := match ρ[i]? with
  | some (some (.val (.int k))) => k.toNat + 1
  | _ => 1
end DD

set_option Elab.async false
set_option linter.all false
set_option maxRecDepth 100000
set_option maxHeartbeats 4000000
/-! reckoning with mirrors -/
namespace DD
open PySem PySem.Spec PyProof.Rows L2
section
variable {ρ ρ' : En} {a b : En → Option Fl} {f : Fl} {d e : D}
theorem seq_nx (h : a ρ = some (.nx ρ')) : sSeq a b ρ = b ρ' := by unfold sSeq; rw [h]; rfl
theorem seq_rt (h : a ρ = some (.rt d)) : sSeq a b ρ = some (.rt d) := by unfold sSeq; rw [h]; rfl
theorem if_t {c : En → Option Bool} (h : c ρ = some true) : sIf c a b ρ = a ρ := by unfold sIf; rw [h]; rfl
theorem if_f {c : En → Option Bool} (h : c ρ = some false) : sIf c a b ρ = b ρ := by unfold sIf; rw [h]; rfl
theorem asg_set {m : En → Option D} {i : Nat} (h : m ρ = some d) : sAsg m (gSet i) ρ = some (.nx (ρ.set i (some (.val d)))) := by unfold sAsg; rw [h]; rfl
theorem par_set {m n : En → Option D} {i j : Nat} (h : m ρ = some d) (k : n ρ = some e) : sPar i j m n ρ = some (.nx ((ρ.set i (some (.val d))).set j (some (.val e)))) := by unfold sPar; rw [h, k]; rfl
theorem ret_of {m : En → Option D} (h : m ρ = some d) : sRet m ρ = some (.rt d) := by unfold sRet; rw [h]; rfl
theorem op_of {g : D → D → Option D} {m n : En → Option D} {x y : D} (h : m ρ = some x) (k : n ρ = some y) : mOp g m n ρ = g x y := by unfold mOp; rw [h, k]; rfl
theorem un_of {g : D → Option D} {m : En → Option D} {x : D} (h : m ρ = some x) : mUn g m ρ = g x := by unfold mUn; rw [h]; rfl
theorem call_of {g : List D → Option D} {m : En → Option (List D)} {x : List D} (h : m ρ = some x) : mCall g m ρ = g x := by unfold mCall; rw [h]; rfl
theorem cons_of {m : En → Option D} {n : En → Option (List D)} {x : D} {y : List D} (h : m ρ = some x) (k : n ρ = some y) : mCons m n ρ = some (x :: y) := by unfold mCons; rw [h, k]; rfl
theorem nil_of : mNil ρ = some [] := rfl
theorem test_of {m : En → Option D} {c : Bool} (h : m ρ = some (.bool c)) : mTest m ρ = some c := by unfold mTest; rw [h]; rfl
theorem tru_of {m : En → Option D} {x : D} (h : m ρ = some x) : mTru m ρ = tru x := by unfold mTru; rw [h]; rfl
theorem tup_of {m : En → Option (List D)} {x : List D} (h : m ρ = some x) (k : x.length ≤ cap) : mTup m ρ = some (.tuple x) := by unfold mTup; rw [h]; simp [sized, k]
theorem lst_of {m : En → Option (List D)} {x : List D} (h : m ρ = some x) (k : x.length ≤ cap) : mLst m ρ = some x := by unfold mLst; rw [h]; simp [sized, k]
theorem list_of {m : En → Option (List D)} {x : List D} (h : m ρ = some x) : mList m ρ = some (.list x) := by unfold mList; rw [h]; rfl
theorem lim_of {n : Nat} {m : List D → Option D} {x : List D} (h : x.length = n) : lim n m x = m x := by unfold lim; rw [if_pos h]
theorem lim1 {m : List D → Option D} {x : D} : lim 1 m [x] = m [x] := rfl
theorem lim2 {m : List D → Option D} {x y : D} : lim 2 m [x, y] = m [x, y] := rfl
theorem lim3 {m : List D → Option D} {x y z : D} : lim 3 m [x, y, z] = m [x, y, z] := rfl
theorem or_t {m n : En → Option Bool} (h : m ρ = some true) : mOr m n ρ = some true := by unfold mOr; rw [h]; rfl
theorem or_f {m n : En → Option Bool} (h : m ρ = some false) : mOr m n ρ = n ρ := by unfold mOr; rw [h]; rfl
theorem and_t {m n : En → Option Bool} (h : m ρ = some true) : mAnd m n ρ = n ρ := by unfold mAnd; rw [h]; rfl
theorem and_f {m n : En → Option Bool} (h : m ρ = some false) : mAnd m n ρ = some false := by unfold mAnd; rw [h]; rfl
theorem not_of {m : En → Option Bool} {c : Bool} (h : m ρ = some c) : mNot m ρ = some (!c) := by unfold mNot; rw [h]; rfl
theorem andV_t {m n : En → Option D} (h : m ρ = some (.bool true)) : mAndV m n ρ = n ρ := by unfold mAndV; rw [h]; rfl
theorem andV_f {m n : En → Option D} (h : m ρ = some (.bool false)) : mAndV m n ρ = some (.bool false) := by unfold mAndV; rw [h]; rfl
theorem notV_of {m : En → Option D} {c : Bool} (h : m ρ = some (.bool c)) : mNotV m ρ = some (.bool (!c)) := by unfold mNotV; rw [h]; rfl
theorem ifE_t {c : En → Option Bool} {m n : En → Option D} (h : c ρ = some true) : mIfE c m n ρ = m ρ := by unfold mIfE; rw [h]; rfl
theorem ifE_f {c : En → Option Bool} {m n : En → Option D} (h : c ρ = some false) : mIfE c m n ρ = n ρ := by unfold mIfE; rw [h]; rfl
theorem mDef_rt {N : Nat} {ds : List D} (h : a (start0 N ds) = some (.rt d)) : mDef N a ds = some d := by unfold mDef; rw [h]; rfl
theorem dEq_of (h : SeqAt.shaped d = true) (k : SeqAt.shaped e = true) : dEq d e = some (.bool (PyData.eqv d e)) := by unfold dEq; rw [h, k]; rfl
theorem dNe_of (h : SeqAt.shaped d = true) (k : SeqAt.shaped e = true) : dNe d e = some (.bool (!PyData.eqv d e)) := by unfold dNe; rw [h, k]; rfl
end

theorem dLen_list {ds : List D} (h : ds.length ≤ cap) : dLen [.list ds] = some (.int ds.length) := if_pos h
theorem dLen_tup {ds : List D} (h : ds.length ≤ cap) : dLen [.tuple ds] = some (.int ds.length) := if_pos h
theorem dLen_str {z : Str} (h : z.length ≤ cap) : dLen [.str z] = some (.int z.length) := if_pos h
theorem dMod_of {i j : Int} (h : 0 < j) : dMod (.int i) (.int j) = some (.int (i % j)) := if_pos h
theorem dFdiv_of {i j : Int} (h : 0 < j) (k : j.natAbs < 2 ^ 64) : dFdiv (.int i) (.int j) = some (.int (i / j)) := if_pos ⟨h, by
  have := PySem.Flt.log2_lt_of (show 0 < 64 by decide) k
  omega⟩
theorem dMul_r {i j : Int} (h : -(2 ^ 64) < j) (k : j < 2 ^ 64) : dMul (.int i) (.int j) = some (.int (i * j)) := by
  have : inW j = true := by unfold inW; rw [decide_eq_true h, decide_eq_true k]; rfl
  show (if (inW i || inW j) = true then _ else _) = _
  rw [this, Bool.or_true, if_pos rfl]
theorem whl_t {c : En → Option Bool} {b : En → Option Fl} {n : Nat} {ρ ρ2 : En} (h : c ρ = some true) (k : b ρ = some (.nx ρ2)) : whl c b (n + 1) ρ = whl c b n ρ2 := by
  have : whl c b (n + 1) ρ = (c ρ).bind fun x => if x = true then (b ρ).bind fun f => match f with
      | .nx ρ2 => whl c b n ρ2
      | .ct ρ2 => whl c b n ρ2
      | .bk ρ2 => some (.nx ρ2)
      | .rt d => some (.rt d)
    else some (.nx ρ) := rfl
  rw [this, h]
  show ((b ρ).bind fun f => _) = _
  rw [k]
  rfl
theorem whl_f {c : En → Option Bool} {b : En → Option Fl} {n : Nat} {ρ : En} (h : c ρ = some false) : whl c b (n + 1) ρ = some (.nx ρ) := by
  have : whl c b (n + 1) ρ = (c ρ).bind fun x => if x = true then (b ρ).bind fun f => match f with
      | .nx ρ2 => whl c b n ρ2
      | .ct ρ2 => whl c b n ρ2
      | .bk ρ2 => some (.nx ρ2)
      | .rt d => some (.rt d)
    else some (.nx ρ) := rfl
  rw [this, h]
  rfl

/-! ### comprehensions, loops -/
theorem coll_map {g : D → En → Option En} {e : En → Option D} {ρ : En} {f : D → D} : ∀ {ds : List D}, (∀ d ∈ ds, ∃ ρ1, g d ρ = some ρ1 ∧ e ρ1 = some (f d)) → coll g mYes e ρ ds = some (ds.map f)
  | [], _ => rfl
  | d :: ds, h => by
    obtain ⟨ρ1, h1, h2⟩ := h d List.mem_cons_self
    have ih := coll_map (g := g) (e := e) (ρ := ρ) (f := f) (ds := ds) fun x hx => h x (List.mem_cons_of_mem _ hx)
    have s1 : coll g mYes e ρ (d :: ds) = (g d ρ).bind fun ρ1 => (mYes ρ1).bind fun b => if b = true then (e ρ1).bind fun x => (coll g mYes e ρ ds).map fun r => x :: r else coll g mYes e ρ ds := rfl
    rw [s1, h1]
    show ((e ρ1).bind fun x => (coll g mYes e ρ ds).map fun r => x :: r) = _
    rw [h2, ih]
    rfl
theorem lc_of {it : En → Option (List D)} {g : D → En → Option En} {e : En → Option D} {ρ : En} {vs : List Nat} {ds : List D} {f : D → D} (hi : it ρ = some ds) (hz : ds.length ≤ cap) (h : ∀ d ∈ ds, ∃ ρ1, g d (wipeM ρ vs) = some ρ1 ∧ e ρ1 = some (f d)) :
    mLc it g mYes e vs ρ = some (ds.map f) := by
  unfold mLc
  rw [hi]
  show (if ds.length ≤ cap then _ else _) = _
  rw [if_pos hz]
  exact coll_map h
theorem bools_map (p : D → Bool) : ∀ ds : List D, bools (ds.map fun d => .bool (p d)) = some (ds.map p)
  | [] => rfl
  | d :: ds => by
    show (bools (ds.map fun d => .bool (p d))).map _ = _
    rw [bools_map p ds]
    rfl
theorem dAll_map (p : D → Bool) (ds : List D) : dAll [.list (ds.map fun d => .bool (p d))] = some (.bool (ds.all p)) := by
  show (bools (ds.map fun d => .bool (p d))).map (fun bs => PyData.bool (bs.all id)) = _
  rw [bools_map]
  show some (PyData.bool ((ds.map p).all id)) = _
  rw [List.all_map]
  rfl
theorem iter_tup {a : En → Option D} {ρ : En} {ds : List D} (h : a ρ = some (.tuple ds)) : mIter a ρ = some ds := by unfold mIter; rw [h]; rfl
theorem iter_lst {a : En → Option D} {ρ : En} {ds : List D} (h : a ρ = some (.list ds)) : mIter a ρ = some ds := by unfold mIter; rw [h]; rfl
theorem chain_of {g h : D → D → Option D} {a b c : En → Option D} {ρ : En} {x y z : D} {p q : Bool} (ha : a ρ = some x) (hb : b ρ = some y) (hc : c ρ = some z) (e1 : g x y = some (.bool p)) (e2 : h y z = some (.bool q)) : mChain g h a b c ρ = some (.bool (p && q)) := by
  unfold mChain
  rw [ha]
  show ((b ρ).bind fun y => _) = _
  rw [hb]
  show ((g x y).bind fun z => _) = _
  rw [e1]
  show (if p = true then (c ρ).bind fun w => h y w else some (.bool false)) = _
  cases p with
  | true => rw [if_pos rfl, hc]; show h y z = _; rw [e2]; rfl
  | false => rw [if_neg Bool.false_ne_true]; rfl

/-! ### a drawn number -/
def kIn (ρ : En) (i : Nat) (d : D) : Prop := ρ[i]? = some (some (.val d))
theorem var_of {ρ : En} {i : Nat} {d : D} (h : ρ[i]? = some (some (.val d))) : mVar i ρ = some d := by unfold mVar; rw [h]

def b_pick : En → Option Fl :=
  (sSeq (sAsg (mIfE (mTest (mOp dNe (mVar 0) (mList (mLst mNil)))) (mOp dIx (mVar 0) (mOp dMod (mVar 1) (mCall dLen (mCons (mVar 0) mNil)))) (mC (.int 0))) (gSet 3))
  (sSeq (sPar 4 5 (mOp dFdiv (mVar 3) (mOp dPow (mC (.int 10)) (mC (.int 18)))) (mOp dFdiv (mVar 1) (mCall dMax2 (mCons (mCall dLen (mCons (mVar 0) mNil)) (mCons (mC (.int 1)) mNil)))))
  (sSeq (sWhile (fun ρ => fuelOf 5 ρ) (mAnd (mTest (mOp dGt (mVar 4) (mC (.int 0)))) (mTest (mOp dGt (mVar 5) (mC (.int 0)))))
  (sPar 4 5 (mOp dFdiv (mVar 4) (mC (.int 840))) (mOp dSub (mVar 5) (mC (.int 1)))))
  (sSeq (sIf (mTest (mOp dGt (mVar 4) (mC (.int 0))))
  (sRet (mOp dMod (mOp dMod (mVar 4) (mC (.int 840))) (mVar 2)))
  sNext)
  (sSeq (sAsg (mOp dMod (mOp dMul (mOp dAdd (mOp dMul (mVar 3) (mC (.int 31))) (mOp dMul (mC (.int 6151)) (mOp dAdd (mVar 1) (mC (.int 1))))) (mC (.int 40692))) (mC (.int 2147483399))) (gSet 6))
  (sRet (mOp dMod (mOp dMod (mOp dAdd (mOp dMul (mVar 6) (mVar 6)) (mOp dFdiv (mVar 6) (mC (.int 31)))) (mC (.int 2147483629))) (mVar 2))))))))
def m_pick (ds : List D) : Option D := mDef 7 b_pick ds

theorem shaped_ints (ns : List Int) : SeqAt.shaped (.list (ns.map PyData.int)) = true := by
  have h1 : ∀ ns : List Int, PyData.canLayAll0 (ns.map PyData.int) = true := by
    intro ns
    induction ns with
    | nil => simp [PyData.canLayAll0]
    | cons n r ih => simp [PyData.canLayAll0, PyData.canLay0, ih]
  have h2 : ∀ ns : List Int, PyData.depthAll (ns.map PyData.int) = 0 := by
    intro ns
    induction ns with
    | nil => simp [PyData.depthAll]
    | cons n r ih => simp [PyData.depthAll, PyData.depth, ih]
  unfold SeqAt.shaped
  simp [PyData.canLay0, PyData.depth, h1, h2]
theorem shaped_nil : SeqAt.shaped (.list []) = true := shaped_ints []
theorem eqv_nil (ns : List Int) : PyData.eqv (.list (ns.map PyData.int)) (.list []) = ns.isEmpty := by
  cases ns <;> simp [PyData.eqv, PyData.eqvAll]
/-- the loop of a drawn number: rest and turn stay ints -/
theorem pick_loop : ∀ (n : Nat) (x : Int) (ρ : En) (sc k many c : D) (r t : Int) (g : Option Sl), 0 ≤ t → t.toNat + 1 = n →
    ∃ r' t' : Int, whl (mAnd (mTest (mOp dGt (mVar 4) (mC (.int 0)))) (mTest (mOp dGt (mVar 5) (mC (.int 0))))) (sPar 4 5 (mOp dFdiv (mVar 4) (mC (.int 840))) (mOp dSub (mVar 5) (mC (.int 1)))) n
      [some (.val sc), some (.val k), some (.val many), some (.val c), some (.val (.int r)), some (.val (.int t)), g] = some (.nx [some (.val sc), some (.val k), some (.val many), some (.val c), some (.val (.int r')), some (.val (.int t')), g])
  | 0, _, _, _, _, _, _, _, _, _, h, e => by omega
  | n + 1, x, ρ, sc, k, many, c, r, t, g, h, e => by
    have hc : mAnd (mTest (mOp dGt (mVar 4) (mC (.int 0)))) (mTest (mOp dGt (mVar 5) (mC (.int 0)))) [some (.val sc), some (.val k), some (.val many), some (.val c), some (.val (.int r)), some (.val (.int t)), g] = some (decide (0 < r) && decide (0 < t)) := by
      have a1 : mTest (mOp dGt (mVar 4) (mC (.int 0))) [some (.val sc), some (.val k), some (.val many), some (.val c), some (.val (.int r)), some (.val (.int t)), g] = some (decide (0 < r)) := rfl
      have a2 : mTest (mOp dGt (mVar 5) (mC (.int 0))) [some (.val sc), some (.val k), some (.val many), some (.val c), some (.val (.int r)), some (.val (.int t)), g] = some (decide (0 < t)) := rfl
      cases hq : decide (0 < r) with
      | true => rw [hq] at a1; rw [and_t a1, a2, Bool.true_and]
      | false => rw [hq] at a1; rw [and_f a1, Bool.false_and]
    cases hq : (decide (0 < r) && decide (0 < t)) with
    | true =>
      rw [hq] at hc
      rw [Bool.and_eq_true] at hq
      have ht : 0 < t := of_decide_eq_true hq.2
      have b1 : mOp dFdiv (mVar 4) (mC (.int 840)) [some (.val sc), some (.val k), some (.val many), some (.val c), some (.val (.int r)), some (.val (.int t)), g] = some (.int (r / 840)) := by
        rw [op_of (show mVar 4 _ = some (.int r) from rfl) (show mC (.int 840) _ = some (.int 840) from rfl)]
        exact dFdiv_of (by decide) (by decide)
      have b2 : mOp dSub (mVar 5) (mC (.int 1)) [some (.val sc), some (.val k), some (.val many), some (.val c), some (.val (.int r)), some (.val (.int t)), g] = some (.int (t - 1)) := rfl
      have hb := par_set (i := 4) (j := 5) b1 b2
      rw [whl_t hc hb]
      exact pick_loop n x ρ sc k many c (r / 840) (t - 1) g (by omega) (by omega)
    | false =>
      rw [hq] at hc
      rw [whl_f hc]
      exact ⟨r, t, rfl⟩
theorem log18 : ((10 : Int) ^ 18).natAbs.log2 < 9000 := by decide +kernel
theorem pick_ok (ns : List Int) (h63 : ns.length ≤ 63) (k many : Int) (hk : 0 ≤ k) (hk2 : k ≤ 100000) (hm : 1 ≤ many) (hm2 : many ≤ 2000000000) :
    ∃ r : Int, m_pick [.list (ns.map .int), .int k, .int many] = some (.int r) ∧ 0 ≤ r ∧ r < many := by
  have hlen : ((ns.map PyData.int).length : Nat) ≤ cap := by rw [List.length_map]; exact Nat.le_trans h63 (by decide)
  -- the cell
  have hcell : ∃ c : Int, mIfE (mTest (mOp dNe (mVar 0) (mList (mLst mNil)))) (mOp dIx (mVar 0) (mOp dMod (mVar 1) (mCall dLen (mCons (mVar 0) mNil)))) (mC (.int 0)) (start0 7 [.list (ns.map .int), .int k, .int many]) = some (.int c) := by
    have t0 : mTest (mOp dNe (mVar 0) (mList (mLst mNil))) (start0 7 [.list (ns.map .int), .int k, .int many]) = some (!ns.isEmpty) := by
      refine test_of ?_
      have e1 : mVar 0 (start0 7 [.list (ns.map .int), .int k, .int many]) = some (.list (ns.map .int)) := rfl
      have e2 : mList (mLst mNil) (start0 7 [.list (ns.map .int), .int k, .int many]) = some (.list []) := rfl
      rw [op_of e1 e2, dNe_of (shaped_ints ns) shaped_nil, eqv_nil]
    cases hn : ns with
    | nil =>
      subst hn
      exact ⟨0, by rw [ifE_f t0]; rfl⟩
    | cons n0 r0 =>
      have ne : 0 < ns.length := by rw [hn]; exact Nat.succ_pos _
      rw [← hn]
      rw [hn] at t0
      rw [← hn] at t0
      have t1 : mTest (mOp dNe (mVar 0) (mList (mLst mNil))) (start0 7 [.list (ns.map .int), .int k, .int many]) = some true := by
        rw [t0, hn]; rfl
      rw [ifE_t t1]
      have e1 : mVar 0 (start0 7 [.list (ns.map .int), .int k, .int many]) = some (.list (ns.map .int)) := rfl
      have e2 : mOp dMod (mVar 1) (mCall dLen (mCons (mVar 0) mNil)) (start0 7 [.list (ns.map .int), .int k, .int many]) = some (.int (k % (ns.length : Int))) := by
        have e3 : mCall dLen (mCons (mVar 0) mNil) (start0 7 [.list (ns.map .int), .int k, .int many]) = some (.int ns.length) := by
          rw [call_of (cons_of e1 nil_of), dLen_list hlen, List.length_map]
        rw [op_of (show mVar 1 _ = some (.int k) from rfl) e3]
        exact dMod_of (by omega)
      rw [op_of e1 e2]
      have b1 : 0 ≤ k % (ns.length : Int) := Int.emod_nonneg _ (by omega)
      have b2 : k % (ns.length : Int) < ns.length := Int.emod_lt_of_pos _ (by omega)
      obtain ⟨j, hj⟩ : ∃ j : Nat, k % (ns.length : Int) = (j : Int) := ⟨(k % (ns.length : Int)).toNat, by omega⟩
      rw [hj] at b2 ⊢
      have hjl : j < ns.length := by omega
      refine ⟨ns[j], ?_⟩
      show atI (ns.map PyData.int) (j : Int) = _
      exact atI_nat (by rw [List.getElem?_map, List.getElem?_eq_getElem hjl]; rfl)
  obtain ⟨c, hc⟩ := hcell
  have hmax : ∃ y : Int, mCall dMax2 (mCons (mCall dLen (mCons (mVar 0) mNil)) (mCons (mC (.int 1)) mNil)) [some (.val (.list (ns.map .int))), some (.val (.int k)), some (.val (.int many)), some (.val (.int c)), none, none, none] = some (.int y) ∧ 1 ≤ y ∧ y ≤ 63 := by
    have e1 : mVar 0 [some (.val (.list (ns.map .int))), some (.val (.int k)), some (.val (.int many)), some (.val (.int c)), none, none, none] = some (.list (ns.map .int)) := rfl
    have e3 : mCall dLen (mCons (mVar 0) mNil) [some (.val (.list (ns.map .int))), some (.val (.int k)), some (.val (.int many)), some (.val (.int c)), none, none, none] = some (.int ns.length) := by
      rw [call_of (cons_of e1 nil_of), dLen_list hlen, List.length_map]
    rw [call_of (cons_of e3 (cons_of (show mC (.int 1) _ = some (.int 1) from rfl) nil_of))]
    refine ⟨_, rfl, ?_, ?_⟩ <;> (split <;> omega)
  obtain ⟨y, hy, y1, y2⟩ := hmax
  have e2 : sPar 4 5 (mOp dFdiv (mVar 3) (mOp dPow (mC (.int 10)) (mC (.int 18)))) (mOp dFdiv (mVar 1) (mCall dMax2 (mCons (mCall dLen (mCons (mVar 0) mNil)) (mCons (mC (.int 1)) mNil))))
      [some (.val (.list (ns.map .int))), some (.val (.int k)), some (.val (.int many)), some (.val (.int c)), none, none, none] =
      some (.nx [some (.val (.list (ns.map .int))), some (.val (.int k)), some (.val (.int many)), some (.val (.int c)), some (.val (.int (c / 10 ^ 18))), some (.val (.int (k / y))), none]) := by
    have p1 : mOp dPow (mC (.int 10)) (mC (.int 18)) [some (.val (.list (ns.map .int))), some (.val (.int k)), some (.val (.int many)), some (.val (.int c)), none, none, none] = some (.int (10 ^ 18)) := by
      rw [op_of (show mC (.int 10) _ = some (.int 10) from rfl) (show mC (.int 18) _ = some (.int 18) from rfl)]
      rfl
    have p2 : mOp dFdiv (mVar 3) (mOp dPow (mC (.int 10)) (mC (.int 18))) [some (.val (.list (ns.map .int))), some (.val (.int k)), some (.val (.int many)), some (.val (.int c)), none, none, none] = some (.int (c / 10 ^ 18)) := by
      rw [op_of (show mVar 3 _ = some (.int c) from rfl) p1]
      exact dFdiv_of (by decide +kernel) (by decide +kernel)
    have p3 : mOp dFdiv (mVar 1) (mCall dMax2 (mCons (mCall dLen (mCons (mVar 0) mNil)) (mCons (mC (.int 1)) mNil))) [some (.val (.list (ns.map .int))), some (.val (.int k)), some (.val (.int many)), some (.val (.int c)), none, none, none] = some (.int (k / y)) := by
      rw [op_of (show mVar 1 _ = some (.int k) from rfl) hy]
      exact dFdiv_of (by omega) (by omega)
    rw [par_set p2 p3]
    rfl
  have hky : 0 ≤ k / y := Int.ediv_nonneg hk (by omega)
  obtain ⟨r', t', hl⟩ := pick_loop ((k / y).toNat + 1) 0 [] (.list (ns.map .int)) (.int k) (.int many) (.int c) (c / 10 ^ 18) (k / y) none hky rfl
  have fin : ∀ z : Int, ∃ r : Int, (if 0 < many then some (PyData.int (z % many)) else none) = some (.int r) ∧ 0 ≤ r ∧ r < many := fun z =>
    ⟨z % many, by rw [if_pos (by omega)], Int.emod_nonneg _ (by omega), Int.emod_lt_of_pos _ (by omega)⟩
  -- the whole
  have e0 : b_pick (start0 7 [.list (ns.map .int), .int k, .int many]) = (sSeq (sIf (mTest (mOp dGt (mVar 4) (mC (.int 0))))
      (sRet (mOp dMod (mOp dMod (mVar 4) (mC (.int 840))) (mVar 2))) sNext)
      (sSeq (sAsg (mOp dMod (mOp dMul (mOp dAdd (mOp dMul (mVar 3) (mC (.int 31))) (mOp dMul (mC (.int 6151)) (mOp dAdd (mVar 1) (mC (.int 1))))) (mC (.int 40692))) (mC (.int 2147483399))) (gSet 6))
      (sRet (mOp dMod (mOp dMod (mOp dAdd (mOp dMul (mVar 6) (mVar 6)) (mOp dFdiv (mVar 6) (mC (.int 31)))) (mC (.int 2147483629))) (mVar 2)))))
      [some (.val (.list (ns.map .int))), some (.val (.int k)), some (.val (.int many)), some (.val (.int c)), some (.val (.int r')), some (.val (.int t')), none] := by
    unfold b_pick
    rw [seq_nx (asg_set hc)]
    show sSeq _ _ [some (.val (.list (ns.map .int))), some (.val (.int k)), some (.val (.int many)), some (.val (.int c)), none, none, none] = _
    rw [seq_nx e2]
    have hw : sWhile (fun ρ => fuelOf 5 ρ) (mAnd (mTest (mOp dGt (mVar 4) (mC (.int 0)))) (mTest (mOp dGt (mVar 5) (mC (.int 0)))))
        (sPar 4 5 (mOp dFdiv (mVar 4) (mC (.int 840))) (mOp dSub (mVar 5) (mC (.int 1)))) [some (.val (.list (ns.map .int))), some (.val (.int k)), some (.val (.int many)), some (.val (.int c)), some (.val (.int (c / 10 ^ 18))), some (.val (.int (k / y))), none] = _ := hl
    rw [seq_nx hw]
  by_cases hr : 0 < r'
  · have hg : mTest (mOp dGt (mVar 4) (mC (.int 0))) [some (.val (.list (ns.map .int))), some (.val (.int k)), some (.val (.int many)), some (.val (.int c)), some (.val (.int r')), some (.val (.int t')), none] = some true := by
      refine test_of ?_
      rw [op_of (show mVar 4 _ = some (.int r') from rfl) (show mC (.int 0) _ = some (.int 0) from rfl)]
      show some (PyData.bool (decide (0 < r'))) = _
      rw [decide_eq_true hr]
    obtain ⟨r, h1, h2, h3⟩ := fin (r' % 840)
    refine ⟨r, mDef_rt ?_, h2, h3⟩
    rw [e0, seq_rt]
    rw [if_t hg]
    refine ret_of ?_
    have q1 : mOp dMod (mVar 4) (mC (.int 840)) [some (.val (.list (ns.map .int))), some (.val (.int k)), some (.val (.int many)), some (.val (.int c)), some (.val (.int r')), some (.val (.int t')), none] = some (.int (r' % 840)) := rfl
    rw [op_of q1 (show mVar 2 _ = some (.int many) from rfl)]
    exact h1
  · have hg : mTest (mOp dGt (mVar 4) (mC (.int 0))) [some (.val (.list (ns.map .int))), some (.val (.int k)), some (.val (.int many)), some (.val (.int c)), some (.val (.int r')), some (.val (.int t')), none] = some false := by
      refine test_of ?_
      rw [op_of (show mVar 4 _ = some (.int r') from rfl) (show mC (.int 0) _ = some (.int 0) from rfl)]
      show some (PyData.bool (decide (0 < r'))) = _
      rw [decide_eq_false hr]
    have hx : mOp dMod (mOp dMul (mOp dAdd (mOp dMul (mVar 3) (mC (.int 31))) (mOp dMul (mC (.int 6151)) (mOp dAdd (mVar 1) (mC (.int 1))))) (mC (.int 40692))) (mC (.int 2147483399))
        [some (.val (.list (ns.map .int))), some (.val (.int k)), some (.val (.int many)), some (.val (.int c)), some (.val (.int r')), some (.val (.int t')), none] = some (.int ((c * 31 + 6151 * (k + 1)) * 40692 % 2147483399)) := by
      have a1 : mOp dMul (mVar 3) (mC (.int 31)) [some (.val (.list (ns.map .int))), some (.val (.int k)), some (.val (.int many)), some (.val (.int c)), some (.val (.int r')), some (.val (.int t')), none] = some (.int (c * 31)) := by
        rw [op_of (show mVar 3 _ = some (.int c) from rfl) (show mC (.int 31) _ = some (.int 31) from rfl)]
        exact dMul_r (by decide) (by decide)
      have a2 : mOp dMul (mC (.int 6151)) (mOp dAdd (mVar 1) (mC (.int 1))) [some (.val (.list (ns.map .int))), some (.val (.int k)), some (.val (.int many)), some (.val (.int c)), some (.val (.int r')), some (.val (.int t')), none] = some (.int (6151 * (k + 1))) := by
        rw [op_of (show mC (.int 6151) _ = some (.int 6151) from rfl) (show mOp dAdd (mVar 1) (mC (.int 1)) _ = some (.int (k + 1)) from rfl)]
        exact dMul_r (by omega) (by omega)
      have a3 : mOp dAdd (mOp dMul (mVar 3) (mC (.int 31))) (mOp dMul (mC (.int 6151)) (mOp dAdd (mVar 1) (mC (.int 1)))) [some (.val (.list (ns.map .int))), some (.val (.int k)), some (.val (.int many)), some (.val (.int c)), some (.val (.int r')), some (.val (.int t')), none] = some (.int (c * 31 + 6151 * (k + 1))) := by
        rw [op_of a1 a2]
        rfl
      have a4 : mOp dMul (mOp dAdd (mOp dMul (mVar 3) (mC (.int 31))) (mOp dMul (mC (.int 6151)) (mOp dAdd (mVar 1) (mC (.int 1))))) (mC (.int 40692)) [some (.val (.list (ns.map .int))), some (.val (.int k)), some (.val (.int many)), some (.val (.int c)), some (.val (.int r')), some (.val (.int t')), none] = some (.int ((c * 31 + 6151 * (k + 1)) * 40692)) := by
        rw [op_of a3 (show mC (.int 40692) _ = some (.int 40692) from rfl)]
        exact dMul_r (by decide) (by decide)
      rw [op_of a4 (show mC (.int 2147483399) _ = some (.int 2147483399) from rfl)]
      rfl
    let z := (c * 31 + 6151 * (k + 1)) * 40692 % 2147483399
    have z0 : 0 ≤ z := Int.emod_nonneg _ (by decide)
    have z1 : z < 2147483399 := Int.emod_lt_of_pos _ (by decide)
    obtain ⟨r, h1, h2, h3⟩ := fin ((z * z + z / 31) % 2147483629)
    refine ⟨r, mDef_rt ?_, h2, h3⟩
    rw [e0, seq_nx (by rw [if_f hg]; rfl), seq_nx (asg_set hx)]
    refine ret_of ?_
    show mOp dMod (mOp dMod (mOp dAdd (mOp dMul (mVar 6) (mVar 6)) (mOp dFdiv (mVar 6) (mC (.int 31)))) (mC (.int 2147483629))) (mVar 2) [some (.val (.list (ns.map .int))), some (.val (.int k)), some (.val (.int many)), some (.val (.int c)), some (.val (.int r')), some (.val (.int t')), some (.val (.int z))] = _
    have b1 : mOp dMul (mVar 6) (mVar 6) [some (.val (.list (ns.map .int))), some (.val (.int k)), some (.val (.int many)), some (.val (.int c)), some (.val (.int r')), some (.val (.int t')), some (.val (.int z))] = some (.int (z * z)) := by
      rw [op_of (show mVar 6 _ = some (.int z) from rfl) (show mVar 6 _ = some (.int z) from rfl)]
      exact dMul_r (by omega) (by omega)
    have b2 : mOp dFdiv (mVar 6) (mC (.int 31)) [some (.val (.list (ns.map .int))), some (.val (.int k)), some (.val (.int many)), some (.val (.int c)), some (.val (.int r')), some (.val (.int t')), some (.val (.int z))] = some (.int (z / 31)) := by
      rw [op_of (show mVar 6 _ = some (.int z) from rfl) (show mC (.int 31) _ = some (.int 31) from rfl)]
      exact dFdiv_of (by decide) (by decide)
    have b3 : mOp dAdd (mOp dMul (mVar 6) (mVar 6)) (mOp dFdiv (mVar 6) (mC (.int 31))) [some (.val (.list (ns.map .int))), some (.val (.int k)), some (.val (.int many)), some (.val (.int c)), some (.val (.int r')), some (.val (.int t')), some (.val (.int z))] = some (.int (z * z + z / 31)) := by
      rw [op_of b1 b2]
      rfl
    have b4 : mOp dMod (mOp dAdd (mOp dMul (mVar 6) (mVar 6)) (mOp dFdiv (mVar 6) (mC (.int 31)))) (mC (.int 2147483629)) [some (.val (.list (ns.map .int))), some (.val (.int k)), some (.val (.int many)), some (.val (.int c)), some (.val (.int r')), some (.val (.int t')), some (.val (.int z))] = some (.int ((z * z + z / 31) % 2147483629)) := by
      rw [op_of b3 (show mC (.int 2147483629) _ = some (.int 2147483629) from rfl)]
      rfl
    rw [op_of b4 (show mVar 2 _ = some (.int many) from rfl)]
    exact h1
end DD

set_option Elab.async false
set_option linter.all false
set_option maxRecDepth 100000
set_option maxHeartbeats 4000000
/-! records and names: what the mirrors tell -/
namespace DD.R
open PySem PySem.Spec PyProof.Rows L2 DD
def b_is_whole : En → Option Fl :=
  (sRet (mAndV (mUn (dIsi "int") (mVar 0)) (mAndV (mNotV (mUn (dIsi "bool") (mVar 0))) (mChain dLe dLe (mVar 1) (mVar 0) (mVar 2)))))
def m_is_whole (ds : List D) : Option D := mDef 3 b_is_whole ds
def b_is_word : En → Option Fl :=
  (sRet (mCall (lim 3 m_is_whole) (mCons (mVar 0) (mCons (mC (.int 0)) (mCons (mC (.int 9999)) mNil)))))
def m_is_word (ds : List D) : Option D := mDef 1 b_is_word ds
def b_is_name : En → Option Fl :=
  (sSeq (sIf (mOr (mNot (mTru (mUn (dIsi "str") (mVar 0)))) (mNot (mTest (mChain dLe dLe (mC (.int 1)) (mCall dLen (mCons (mVar 0) mNil)) (mC (.int 8))))))
  (sRet (mC (.bool false)))
  sNext)
  (sRet (mCall dAll (mCons (mList (mLc (mIter (mVar 0)) (gSet 1) mYes (mOp dInS (mVar 1) (mC (.str ("abcdefghijklmnopqrstuvwxyz" : Str)))) [1])) mNil))))
def m_is_name (ds : List D) : Option D := mDef 2 b_is_name ds
def b_is_record : En → Option Fl :=
  (sSeq (sIf (mOr (mNot (mTru (mUn (dIsi "tuple") (mVar 0)))) (mNot (mTest (mChain dLe dLe (mC (.int 1)) (mCall dLen (mCons (mVar 0) mNil)) (mC (.int 8))))))
  (sRet (mC (.bool false)))
  sNext)
  (sRet (mCall dAll (mCons (mList (mLc (mIter (mVar 0)) (gSet 1) mYes (mCall (lim 1 m_is_word) (mCons (mVar 1) mNil)) [1])) mNil))))
def m_is_record (ds : List D) : Option D := mDef 2 b_is_record ds
def b_are_records : En → Option Fl :=
  (sSeq (sIf (mOr (mNot (mTru (mUn (dIsi "tuple") (mVar 0)))) (mTest (mOp dGt (mCall dLen (mCons (mVar 0) mNil)) (mC (.int 30)))))
  (sRet (mC (.bool false)))
  sNext)
  (sRet (mCall dAll (mCons (mList (mLc (mIter (mVar 0)) (gSet 1) mYes (mCall (lim 1 m_is_record) (mCons (mVar 1) mNil)) [1])) mNil))))
def m_are_records (ds : List D) : Option D := mDef 2 b_are_records ds

def isWhole (d : D) (lo hi : Int) : Bool := match d with
  | .int i => decide (lo ≤ i) && decide (i ≤ hi)
  | _ => false
def isWord (d : D) : Bool := isWhole d 0 9999
def abc : List Nat := ("abcdefghijklmnopqrstuvwxyz" : Str).cps.toList
def isNam (d : D) : Bool := match d with
  | .str z => (decide ((1 : Int) ≤ z.length) && decide ((z.length : Int) ≤ 8)) && z.cps.toList.all fun c => decide (c ∈ abc)
  | _ => false
def isRec (d : D) : Bool := match d with
  | .tuple ds => (decide ((1 : Int) ≤ ds.length) && decide ((ds.length : Int) ≤ 8)) && ds.all isWord
  | _ => false
def areRecs (d : D) : Bool := match d with
  | .tuple ds => (!decide ((30 : Int) < ds.length)) && ds.all isRec
  | _ => false
/-- no text or row is too long -/
def okLen : D → Prop
  | .tuple ds => ds.length ≤ cap
  | .str z => z.length ≤ cap
  | _ => True
theorem whole_eq (d : D) (lo hi : Int) : m_is_whole [d, .int lo, .int hi] = some (.bool (isWhole d lo hi)) := by
  cases d with
  | int i =>
    refine mDef_rt (ret_of ?_)
    rw [andV_t (show _ = some (PyData.bool true) from rfl), andV_t (show _ = some (PyData.bool true) from rfl)]
    exact chain_of (x := .int lo) (y := .int i) (z := .int hi) rfl rfl rfl rfl rfl
  | _ => rfl
theorem word_eq (d : D) : m_is_word [d] = some (.bool (isWord d)) := by
  refine mDef_rt (ret_of ?_)
  have e : (mCons (mVar 0) (mCons (mC (.int 0)) (mCons (mC (.int 9999)) mNil))) (start0 1 [d]) = some [d, .int 0, .int 9999] := rfl
  rw [call_of e, lim3]
  exact whole_eq d 0 9999
theorem name_eq (d : D) (h : okLen d) : m_is_name [d] = some (.bool (isNam d)) := by
  cases d with
  | str z =>
    have hz : z.length ≤ cap := h
    have c1 : mChain dLe dLe (mC (.int 1)) (mCall dLen (mCons (mVar 0) mNil)) (mC (.int 8)) (start0 2 [.str z]) = some (.bool (decide ((1 : Int) ≤ z.length) && decide ((z.length : Int) ≤ 8))) := by
      refine chain_of (x := .int 1) (y := .int z.length) (z := .int 8) rfl ?_ rfl rfl rfl
      rw [call_of (cons_of (show mVar 0 (start0 2 [.str z]) = some (.str z) from rfl) nil_of), dLen_str hz]
    have c2 : mOr (mNot (mTru (mUn (dIsi "str") (mVar 0)))) (mNot (mTest (mChain dLe dLe (mC (.int 1)) (mCall dLen (mCons (mVar 0) mNil)) (mC (.int 8))))) (start0 2 [.str z]) = some (!(decide ((1 : Int) ≤ z.length) && decide ((z.length : Int) ≤ 8))) := by
      rw [or_f (show mNot (mTru (mUn (dIsi "str") (mVar 0))) (start0 2 [.str z]) = some false from rfl), not_of (test_of c1)]
    show m_is_name [.str z] = some (.bool ((decide ((1 : Int) ≤ z.length) && decide ((z.length : Int) ≤ 8)) && z.cps.toList.all fun c => decide (c ∈ abc)))
    cases hq : (decide ((1 : Int) ≤ z.length) && decide ((z.length : Int) ≤ 8)) with
    | false =>
      rw [hq] at c2
      refine mDef_rt ?_
      unfold b_is_name
      rw [seq_rt (d := .bool false) (by rw [if_t c2]; rfl)]
      rfl
    | true =>
      rw [hq] at c2
      refine mDef_rt ?_
      unfold b_is_name
      rw [seq_nx (by rw [if_f c2]; rfl)]
      refine ret_of ?_
      have hi : mIter (mVar 0) (start0 2 [.str z]) = some (z.cps.toList.map fun c => .str ⟨#[c]⟩) := rfl
      have hlc : mLc (mIter (mVar 0)) (gSet 1) mYes (mOp dInS (mVar 1) (mC (.str ("abcdefghijklmnopqrstuvwxyz" : Str)))) [1] (start0 2 [.str z]) =
          some ((z.cps.toList.map fun c => PyData.str ⟨#[c]⟩).map fun d => .bool (match d with | .str w => w.cps.toList.all fun c => decide (c ∈ abc) | _ => false)) := by
        refine lc_of hi (by rw [List.length_map, Array.length_toList]; exact hz) fun d hd => ?_
        obtain ⟨c, _, rfl⟩ := List.mem_map.mp hd
        refine ⟨_, rfl, ?_⟩
        show some (PyData.bool (decide (c ∈ abc))) = some (PyData.bool ([c].all fun c => decide (c ∈ abc)))
        simp
      rw [call_of (cons_of (list_of hlc) nil_of)]
      rw [dAll_map]
      rw [List.all_map, Bool.true_and]
      congr 2
      simp [Function.comp_def]
  | _ => rfl
theorem rec_eq (d : D) (h : okLen d) : m_is_record [d] = some (.bool (isRec d)) := by
  cases d with
  | tuple ds =>
    have hz : ds.length ≤ cap := h
    have c1 : mChain dLe dLe (mC (.int 1)) (mCall dLen (mCons (mVar 0) mNil)) (mC (.int 8)) (start0 2 [.tuple ds]) = some (.bool (decide ((1 : Int) ≤ ds.length) && decide ((ds.length : Int) ≤ 8))) := by
      refine chain_of (x := .int 1) (y := .int ds.length) (z := .int 8) rfl ?_ rfl rfl rfl
      rw [call_of (cons_of (show mVar 0 (start0 2 [.tuple ds]) = some (.tuple ds) from rfl) nil_of), dLen_tup hz]
    have c2 : mOr (mNot (mTru (mUn (dIsi "tuple") (mVar 0)))) (mNot (mTest (mChain dLe dLe (mC (.int 1)) (mCall dLen (mCons (mVar 0) mNil)) (mC (.int 8))))) (start0 2 [.tuple ds]) = some (!(decide ((1 : Int) ≤ ds.length) && decide ((ds.length : Int) ≤ 8))) := by
      rw [or_f (show mNot (mTru (mUn (dIsi "tuple") (mVar 0))) (start0 2 [.tuple ds]) = some false from rfl), not_of (test_of c1)]
    show m_is_record [.tuple ds] = some (.bool ((decide ((1 : Int) ≤ ds.length) && decide ((ds.length : Int) ≤ 8)) && ds.all isWord))
    cases hq : (decide ((1 : Int) ≤ ds.length) && decide ((ds.length : Int) ≤ 8)) with
    | false =>
      rw [hq] at c2
      refine mDef_rt ?_
      unfold b_is_record
      rw [seq_rt (d := .bool false) (by rw [if_t c2]; rfl)]
      rfl
    | true =>
      rw [hq] at c2
      refine mDef_rt ?_
      unfold b_is_record
      rw [seq_nx (by rw [if_f c2]; rfl)]
      refine ret_of ?_
      have hlc : mLc (mIter (mVar 0)) (gSet 1) mYes (mCall (lim 1 m_is_word) (mCons (mVar 1) mNil)) [1] (start0 2 [.tuple ds]) = some (ds.map fun d => .bool (isWord d)) := by
        refine lc_of rfl hz fun d hd => ⟨_, rfl, ?_⟩
        rw [call_of (cons_of (show mVar 1 _ = some d from rfl) nil_of), lim1]
        exact word_eq d
      rw [call_of (cons_of (list_of hlc) nil_of), dAll_map, Bool.true_and]
  | _ => rfl
theorem recs_eq (d : D) (h : okLen d) (k : ∀ ds, d = .tuple ds → ∀ x ∈ ds, okLen x) : m_are_records [d] = some (.bool (areRecs d)) := by
  cases d with
  | tuple ds =>
    have hz : ds.length ≤ cap := h
    have hk := k ds rfl
    have c1 : mOp dGt (mCall dLen (mCons (mVar 0) mNil)) (mC (.int 30)) (start0 2 [.tuple ds]) = some (.bool (decide ((30 : Int) < ds.length))) := by
      have e1 : mCall dLen (mCons (mVar 0) mNil) (start0 2 [.tuple ds]) = some (.int ds.length) := by
        rw [call_of (cons_of (show mVar 0 (start0 2 [.tuple ds]) = some (.tuple ds) from rfl) nil_of), dLen_tup hz]
      rw [op_of e1 (show mC (.int 30) _ = some (.int 30) from rfl)]
      rfl
    have c2 : mOr (mNot (mTru (mUn (dIsi "tuple") (mVar 0)))) (mTest (mOp dGt (mCall dLen (mCons (mVar 0) mNil)) (mC (.int 30)))) (start0 2 [.tuple ds]) = some (decide ((30 : Int) < ds.length)) := by
      rw [or_f (show mNot (mTru (mUn (dIsi "tuple") (mVar 0))) (start0 2 [.tuple ds]) = some false from rfl), test_of c1]
    show m_are_records [.tuple ds] = some (.bool ((!decide ((30 : Int) < ds.length)) && ds.all isRec))
    cases hq : decide ((30 : Int) < ds.length) with
    | true =>
      rw [hq] at c2
      refine mDef_rt ?_
      unfold b_are_records
      rw [seq_rt (d := .bool false) (by rw [if_t c2]; rfl)]
      rfl
    | false =>
      rw [hq] at c2
      refine mDef_rt ?_
      unfold b_are_records
      rw [seq_nx (by rw [if_f c2]; rfl)]
      refine ret_of ?_
      have hlc : mLc (mIter (mVar 0)) (gSet 1) mYes (mCall (lim 1 m_is_record) (mCons (mVar 1) mNil)) [1] (start0 2 [.tuple ds]) = some (ds.map fun d => .bool (isRec d)) := by
        refine lc_of rfl hz fun d hd => ⟨_, rfl, ?_⟩
        rw [call_of (cons_of (show mVar 1 _ = some d from rfl) nil_of), lim1]
        exact rec_eq d (hk d hd)
      rw [call_of (cons_of (list_of hlc) nil_of), dAll_map]
      rfl
  | _ => rfl
end DD.R

set_option Elab.async false
set_option linter.all false
set_option maxRecDepth 100000
set_option maxHeartbeats 4000000
namespace DD
open PySem PySem.Spec PyProof.Rows L2
def topS (i : Nat) : Stmt := PySem.Challenge.pw_batchyard_k01_records.main.body.getD i (.Pass ⟨0, 0, 0, 0⟩)
abbrev s_is_whole : Stmt := topS 6
abbrev N_is_whole : List Str := ["thing", "low", "high"]
theorem sc_is_whole : FnScope N_is_whole ["thing", "low", "high"] (defScope s_is_whole) := ⟨rfl, rfl, rfl, by decide +kernel, rfl, by decide +kernel, by decide +kernel⟩
abbrev s_is_word : Stmt := topS 7
abbrev N_is_word : List Str := ["thing"]
theorem sc_is_word : FnScope N_is_word ["thing"] (defScope s_is_word) := ⟨rfl, rfl, rfl, by decide +kernel, rfl, by decide +kernel, by decide +kernel⟩
abbrev s_is_name : Stmt := topS 8
abbrev N_is_name : List Str := ["thing", "sign"]
theorem sc_is_name : FnScope N_is_name ["thing"] (defScope s_is_name) := ⟨rfl, rfl, rfl, by decide +kernel, rfl, by decide +kernel, by decide +kernel⟩
abbrev s_is_record : Stmt := topS 9
abbrev N_is_record : List Str := ["thing", "part"]
theorem sc_is_record : FnScope N_is_record ["thing"] (defScope s_is_record) := ⟨rfl, rfl, rfl, by decide +kernel, rfl, by decide +kernel, by decide +kernel⟩
abbrev s_are_records : Stmt := topS 10
abbrev N_are_records : List Str := ["thing", "part"]
theorem sc_are_records : FnScope N_are_records ["thing"] (defScope s_are_records) := ⟨rfl, rfl, rfl, by decide +kernel, rfl, by decide +kernel, by decide +kernel⟩
abbrev s__law_pick : Stmt := topS 12
abbrev N__law_pick : List Str := ["_law_script", "_law_k", "_law_many", "_law_cell", "_law_rest", "_law_turn", "_law_drawn"]
theorem sc__law_pick : FnScope N__law_pick ["_law_script", "_law_k", "_law_many"] (defScope s__law_pick) := ⟨rfl, rfl, rfl, by decide +kernel, rfl, by decide +kernel, by decide +kernel⟩
abbrev s__law_odd : Stmt := topS 13
abbrev N__law_odd : List Str := ["_law_script", "_law_at"]
theorem sc__law_odd : FnScope N__law_odd ["_law_script", "_law_at"] (defScope s__law_odd) := ⟨rfl, rfl, rfl, by decide +kernel, rfl, by decide +kernel, by decide +kernel⟩
abbrev s_law : Stmt := topS 14
abbrev N_law : List Str := ["_law_script", "_law_many", "_law_word", "_law_name", "_law_row", "_law_rows", "_law_thing"]
theorem sc_law : FnScope N_law ["_law_script"] (defScope s_law) := ⟨rfl, rfl, rfl, by decide +kernel, rfl, by decide +kernel, by decide +kernel⟩
/-! ### mirrors -/
def b_is_whole : En → Option Fl :=
  (sRet (mAndV (mUn (dIsi "int") (mVar 0)) (mAndV (mNotV (mUn (dIsi "bool") (mVar 0))) (mChain dLe dLe (mVar 1) (mVar 0) (mVar 2)))))
def m_is_whole (ds : List D) : Option D := mDef 3 b_is_whole ds
def b_is_word : En → Option Fl :=
  (sRet (mCall (lim 3 m_is_whole) (mCons (mVar 0) (mCons (mC (.int 0)) (mCons (mC (.int 9999)) mNil)))))
def m_is_word (ds : List D) : Option D := mDef 1 b_is_word ds
def b_is_name : En → Option Fl :=
  (sSeq (sIf (mOr (mNot (mTru (mUn (dIsi "str") (mVar 0)))) (mNot (mTest (mChain dLe dLe (mC (.int 1)) (mCall dLen (mCons (mVar 0) mNil)) (mC (.int 8))))))
  (sRet (mC (.bool false)))
  sNext)
  (sRet (mCall dAll (mCons (mList (mLc (mIter (mVar 0)) (gSet 1) mYes (mOp dInS (mVar 1) (mC (.str ("abcdefghijklmnopqrstuvwxyz" : Str)))) [1])) mNil))))
def m_is_name (ds : List D) : Option D := mDef 2 b_is_name ds
def b_is_record : En → Option Fl :=
  (sSeq (sIf (mOr (mNot (mTru (mUn (dIsi "tuple") (mVar 0)))) (mNot (mTest (mChain dLe dLe (mC (.int 1)) (mCall dLen (mCons (mVar 0) mNil)) (mC (.int 8))))))
  (sRet (mC (.bool false)))
  sNext)
  (sRet (mCall dAll (mCons (mList (mLc (mIter (mVar 0)) (gSet 1) mYes (mCall (lim 1 m_is_word) (mCons (mVar 1) mNil)) [1])) mNil))))
def m_is_record (ds : List D) : Option D := mDef 2 b_is_record ds
def b_are_records : En → Option Fl :=
  (sSeq (sIf (mOr (mNot (mTru (mUn (dIsi "tuple") (mVar 0)))) (mTest (mOp dGt (mCall dLen (mCons (mVar 0) mNil)) (mC (.int 30)))))
  (sRet (mC (.bool false)))
  sNext)
  (sRet (mCall dAll (mCons (mList (mLc (mIter (mVar 0)) (gSet 1) mYes (mCall (lim 1 m_is_record) (mCons (mVar 1) mNil)) [1])) mNil))))
def m_are_records (ds : List D) : Option D := mDef 2 b_are_records ds
def fuel__law_pick_0 (ρ : En) : Nat := fuelOf 5 ρ
def b__law_pick : En → Option Fl :=
  (sSeq (sAsg (mIfE (mTest (mOp dNe (mVar 0) (mList (mLst mNil)))) (mOp dIx (mVar 0) (mOp dMod (mVar 1) (mCall dLen (mCons (mVar 0) mNil)))) (mC (.int 0))) (gSet 3))
  (sSeq (sPar 4 5 (mOp dFdiv (mVar 3) (mOp dPow (mC (.int 10)) (mC (.int 18)))) (mOp dFdiv (mVar 1) (mCall dMax2 (mCons (mCall dLen (mCons (mVar 0) mNil)) (mCons (mC (.int 1)) mNil)))))
  (sSeq (sWhile fuel__law_pick_0 (mAnd (mTest (mOp dGt (mVar 4) (mC (.int 0)))) (mTest (mOp dGt (mVar 5) (mC (.int 0)))))
  (sPar 4 5 (mOp dFdiv (mVar 4) (mC (.int 840))) (mOp dSub (mVar 5) (mC (.int 1)))))
  (sSeq (sIf (mTest (mOp dGt (mVar 4) (mC (.int 0))))
  (sRet (mOp dMod (mOp dMod (mVar 4) (mC (.int 840))) (mVar 2)))
  sNext)
  (sSeq (sAsg (mOp dMod (mOp dMul (mOp dAdd (mOp dMul (mVar 3) (mC (.int 31))) (mOp dMul (mC (.int 6151)) (mOp dAdd (mVar 1) (mC (.int 1))))) (mC (.int 40692))) (mC (.int 2147483399))) (gSet 6))
  (sRet (mOp dMod (mOp dMod (mOp dAdd (mOp dMul (mVar 6) (mVar 6)) (mOp dFdiv (mVar 6) (mC (.int 31)))) (mC (.int 2147483629))) (mVar 2))))))))
def m__law_pick (ds : List D) : Option D := mDef 7 b__law_pick ds
def b__law_odd : En → Option Fl :=
  (sRet (mList (mLst (mCons (mC .none) (mCons (mC (.bool true)) (mCons (mC (.str ("" : Str))) (mCons (mC (.str ("A" : Str))) (mCons (mC (.str ("5" : Str))) (mCons (mList (mLst (mCons (mC (.int 1)) mNil))) (mCons (mTup (mCons (mC (.int 1)) mNil)) (mCons (mOp dSub (mUn dNeg (mC (.int 1))) (mCall (lim 3 m__law_pick) (mCons (mVar 0) (mCons (mVar 1) (mCons (mC (.int 9)) mNil))))) (mCons (mC (.str ("abcdefghi" : Str))) (mCons (mList (mLst (mCons (mList (mLst (mCons (mC (.str ("a" : Str))) mNil))) mNil))) (mCons (mOp dPow (mC (.int 10)) (mC (.int 9))) (mCons (mTup (mCons (mC (.str ("A" : Str))) mNil)) mNil)))))))))))))))
def m__law_odd (ds : List D) : Option D := mDef 2 b__law_odd ds
def b_law : En → Option Fl :=
  (sSeq (sPar 1 2 (mOp dAdd (mC (.int 1)) (mCall (lim 3 m__law_pick) (mCons (mVar 0) (mCons (mC (.int 60)) (mCons (mC (.int 8)) mNil))))) (mCall (lim 3 m__law_pick) (mCons (mVar 0) (mCons (mC (.int 61)) (mCons (mC (.int 10000)) mNil)))))
  (sSeq (sAsg (mSl (mC (.str ("abcdefgh" : Str))) mNoPart (mPart (mVar 1))) (gSet 3))
  (sSeq (sIf (mTest (mOp dNe (mList (mLst (mCons (mCall (lim 1 m_is_name) (mCons (mVar 3) mNil)) (mCons (mCall (lim 1 m_is_name) (mCons (mOp dAdd (mVar 3) (mC (.str ("i" : Str)))) mNil)) (mCons (mCall (lim 1 m_is_name) (mCons (mOp dAdd (mSl (mVar 3) mNoPart (mPart (mC (.int 7)))) (mC (.str ("I" : Str)))) mNil)) (mCons (mCall (lim 1 m_is_name) (mCons (mC (.str ("" : Str))) mNil)) mNil)))))) (mList (mLst (mCons (mC (.bool true)) (mCons (mOp dLt (mVar 1) (mC (.int 8))) (mCons (mC (.bool false)) (mCons (mC (.bool false)) mNil))))))))
  (sRet (mC (.bool false)))
  sNext)
  (sSeq (sAsg (mOp dMul (mTup (mCons (mVar 2) mNil)) (mVar 1)) (gSet 4))
  (sSeq (sIf (mOr (mTest (mOp dIsNot (mCall (lim 1 m_is_record) (mCons (mVar 4) mNil)) (mC (.bool true)))) (mOr (mTest (mOp dNe (mCall (lim 1 m_is_record) (mCons (mOp dAdd (mVar 4) (mTup (mCons (mC (.int 0)) mNil))) mNil)) (mOp dLt (mVar 1) (mC (.int 8))))) (mTru (mCall (lim 1 m_is_record) (mCons (mOp dAdd (mSl (mVar 4) mNoPart (mPart (mUn dNeg (mC (.int 1))))) (mTup (mCons (mC (.int 10000)) mNil))) mNil)))))
  (sRet (mC (.bool false)))
  sNext)
  (sSeq (sIf (mOr (mTest (mOp dIsNot (mCall (lim 1 m_is_record) (mCons (mList (mCallL dLstOf (mCons (mVar 4) mNil))) mNil)) (mC (.bool false)))) (mOr (mTru (mCall (lim 1 m_is_record) (mCons (mOp dAdd (mSl (mVar 4) mNoPart (mPart (mUn dNeg (mC (.int 1))))) (mTup (mCons (mC (.bool true)) mNil))) mNil))) (mTru (mCall (lim 1 m_is_record) (mCons (mTup mNil) mNil)))))
  (sRet (mC (.bool false)))
  sNext)
  (sSeq (sAsg (mOp dMul (mTup (mCons (mVar 4) mNil)) (mCall (lim 3 m__law_pick) (mCons (mVar 0) (mCons (mC (.int 62)) (mCons (mC (.int 31)) mNil))))) (gSet 5))
  (sSeq (sIf (mOr (mTest (mOp dIsNot (mCall (lim 1 m_are_records) (mCons (mVar 5) mNil)) (mC (.bool true)))) (mOr (mTru (mCall (lim 1 m_are_records) (mCons (mList (mCallL dLstOf (mCons (mVar 5) mNil))) mNil))) (mTru (mCall (lim 1 m_are_records) (mCons (mOp dMul (mTup (mCons (mVar 4) mNil)) (mC (.int 31))) mNil)))))
  (sRet (mC (.bool false)))
  sNext)
  (sSeq (sFor (mIter (mCall (lim 2 m__law_odd) (mCons (mVar 0) (mCons (mC (.int 63)) mNil)))) (gSet 6)
  (sSeq (sIf (mOr (mTest (mOp dIsNot (mCall (lim 1 m_is_name) (mCons (mVar 6) mNil)) (mC (.bool false)))) (mTest (mOp dNe (mCall (lim 1 m_are_records) (mCons (mTup (mCons (mVar 4) (mCons (mVar 6) mNil))) mNil)) (mOp dEq (mVar 6) (mTup (mCons (mC (.int 1)) mNil))))))
  (sRet (mC (.bool false)))
  sNext)
  (sIf (mOr (mTest (mOp dIsNot (mCall (lim 1 m_is_record) (mCons (mTup (mCons (mVar 2) (mCons (mVar 6) mNil))) mNil)) (mC (.bool false)))) (mTest (mOp dNe (mCall (lim 1 m_is_record) (mCons (mVar 6) mNil)) (mOp dEq (mVar 6) (mTup (mCons (mC (.int 1)) mNil))))))
  (sRet (mC (.bool false)))
  sNext)))
  (sRet (mAndV (mOp dIs (mCall (lim 1 m_are_records) (mCons (mTup mNil) mNil)) (mC (.bool true))) (mAndV (mOp dIs (mCall (lim 1 m_are_records) (mCons (mTup (mCons (mVar 4) (mCons (mTup mNil) mNil))) mNil)) (mC (.bool false))) (mOp dIs (mCall (lim 1 m_is_record) (mCons (mTup (mCons (mC (.int 0)) (mCons (mC (.int 9999)) mNil))) mNil)) (mC (.bool true)))))))))))))))
def m_law (ds : List D) : Option D := mDef 7 b_law ds
/-! ### what the top leaves -/
structure Tx (K : PySem.W.Frag) (w : World) (mg : Str → Option Value) where
  f_is_whole : Addr
  d_is_whole : FuncData
  F_is_whole : Fun K "is_whole" "is_whole" s_is_whole f_is_whole d_is_whole
  b_is_whole : Binds K d_is_whole ["thing", "low", "high"] []
  g_is_whole : mg "is_whole" = some (.ref f_is_whole)
  f_is_word : Addr
  d_is_word : FuncData
  F_is_word : Fun K "is_word" "is_word" s_is_word f_is_word d_is_word
  b_is_word : Binds K d_is_word ["thing"] []
  g_is_word : mg "is_word" = some (.ref f_is_word)
  f_is_name : Addr
  d_is_name : FuncData
  F_is_name : Fun K "is_name" "is_name" s_is_name f_is_name d_is_name
  b_is_name : Binds K d_is_name ["thing"] []
  g_is_name : mg "is_name" = some (.ref f_is_name)
  f_is_record : Addr
  d_is_record : FuncData
  F_is_record : Fun K "is_record" "is_record" s_is_record f_is_record d_is_record
  b_is_record : Binds K d_is_record ["thing"] []
  g_is_record : mg "is_record" = some (.ref f_is_record)
  f_are_records : Addr
  d_are_records : FuncData
  F_are_records : Fun K "are_records" "are_records" s_are_records f_are_records d_are_records
  b_are_records : Binds K d_are_records ["thing"] []
  g_are_records : mg "are_records" = some (.ref f_are_records)
  f__law_pick : Addr
  d__law_pick : FuncData
  F__law_pick : Fun K "_law_pick" "_law_pick" s__law_pick f__law_pick d__law_pick
  b__law_pick : Binds K d__law_pick ["_law_script", "_law_k", "_law_many"] []
  g__law_pick : mg "_law_pick" = some (.ref f__law_pick)
  f__law_odd : Addr
  d__law_odd : FuncData
  F__law_odd : Fun K "_law_odd" "_law_odd" s__law_odd f__law_odd d__law_odd
  b__law_odd : Binds K d__law_odd ["_law_script", "_law_at"] []
  g__law_odd : mg "_law_odd" = some (.ref f__law_odd)
  f_law : Addr
  d_law : FuncData
  F_law : Fun K "law" "law" s_law f_law d_law
  b_law : Binds K d_law ["_law_script"] []
  g_law : mg "law" = some (.ref f_law)
  t_GREATEST_WORD : Tok
  c_GREATEST_WORD : mg "GREATEST_WORD" = some (.int 9999 t_GREATEST_WORD)
  t_MOST_LETTERS : Tok
  c_MOST_LETTERS : mg "MOST_LETTERS" = some (.int 8 t_MOST_LETTERS)
  t_LETTERS : Tok
  c_LETTERS : mg "LETTERS" = some (.str "abcdefghijklmnopqrstuvwxyz" t_LETTERS)
  t_MOST_WORDS : Tok
  c_MOST_WORDS : mg "MOST_WORDS" = some (.int 8 t_MOST_WORDS)
  t_MOST_RECORDS : Tok
  c_MOST_RECORDS : mg "MOST_RECORDS" = some (.int 30 t_MOST_RECORDS)
  n_isinstance : mg "isinstance" = none
  n_int : mg "int" = none
  n_bool : mg "bool" = none
  n_str : mg "str" = none
  n_len : mg "len" = none
  n_all : mg "all" = none
  n_tuple : mg "tuple" = none
  n_max : mg "max" = none
  n_list : mg "list" = none
section
variable {P : Program} {w : World} {K : PySem.W.Frag} {mg : Str → Option Value} {base : Heap}
theorem ok_is_whole (T : Tx K w mg) : FnOk P w K mg base CX0 1 T.f_is_whole T.d_is_whole ["thing", "low", "high"] (spM K 3 m_is_whole) :=
  def_ok (N := N_is_whole) T.F_is_whole sc_is_whole fun cdv A outer s H E hr => ⟨_,
  (pss_one (ps_ret (pe_and (pe_callB call_isi (by rfl) T.n_isinstance (by decide +kernel) (pa_cons (pv 0) (pa_cons (pe_bltn (v := .ty "int") (by rfl) T.n_int (by decide +kernel) rfl) pa_nil))) (pe_and (pe_not (pe_callB call_isi (by rfl) T.n_isinstance (by decide +kernel) (pa_cons (pv 0) (pa_cons (pe_bltn (v := .ty "bool") (by rfl) T.n_bool (by decide +kernel) rfl) pa_nil)))) (pe_one (pe_chain op_le op_le (pv 1) (pv 0) (pv 2))))))),
  ((st_ret (ev_andV (ev_isi cls_int (ev_var 0)) (ev_andV (ev_notV (ev_isi cls_bool (ev_var 0))) (ev_chain rd_le' rd_le' (ev_var 1) (ev_var 0) (ev_var 2))))) : TSm K _ b_is_whole)⟩
theorem ok_is_word (T : Tx K w mg) : FnOk P w K mg base CX0 2 T.f_is_word T.d_is_word ["thing"] (spM K 1 m_is_word) :=
  def_ok (N := N_is_word) T.F_is_word sc_is_word fun cdv A outer s H E hr => ⟨_,
  (pss_one (ps_ret (pe_call (ok_is_whole T) (hr.mono (by decide)) (by rfl) T.g_is_whole T.F_is_whole.kp T.b_is_whole .nil pass0 (pa_cons (pv 0) (pa_cons pe_int (pa_cons (pe_glob (v := .int 9999) (by rfl) T.c_GREATEST_WORD ⟨_, rfl⟩) pa_nil)))))),
  ((st_ret (ev_call' (ea_cons (ev_var 0) (ea_cons ev_int (ea_cons ev_int ea_nil))))) : TSm K _ b_is_word)⟩
theorem ok_is_name (T : Tx K w mg) : FnOk P w K mg base CX0 1 T.f_is_name T.d_is_name ["thing"] (spM K 1 m_is_name) :=
  def_ok (N := N_is_name) T.F_is_name sc_is_name fun cdv A outer s H E hr => ⟨_,
  (pss_cons (ps_if (PW.pt (pw_or (pt_not (pt_tr (pe_callB call_isi (by rfl) T.n_isinstance (by decide +kernel) (pa_cons (pv 0) (pa_cons (pe_bltn (v := .ty "str") (by rfl) T.n_str (by decide +kernel) rfl) pa_nil))) (fun _ => rfl))) (pw_or1 (pt_not (pt_chain op_le op_le pe_int (pe_callB cr_len (by rfl) T.n_len (by decide +kernel) (pa_cons (pv 0) pa_nil)) (pe_glob (v := .int 8) (by rfl) T.c_MOST_LETTERS ⟨_, rfl⟩)))))) (pss_one (ps_ret pe_bl)) pss_nil)
  (pss_one (ps_ret (pe_callB (cr_all rfl) (by rfl) T.n_all (by decide +kernel) (pa_cons (pe_lc (own := [("sign", 1)]) (g := gName 1) (tt := tYes) rfl sc_is_name.nd (pi_any (pv 0)) (blkOk_by (N := N_is_name) (sc := defScope s_is_name) (by decide +kernel)) (fun _ _ _ _ _ => (pg_name (i := 1) sc_is_name.nd rfl (.inl rfl))) (fun _ _ _ _ _ => pts_nil) (fun _ _ _ _ _ => (pe_cmpR op_inS (pv 1) (pe_glob (v := .str "abcdefghijklmnopqrstuvwxyz") (by rfl) T.c_LETTERS ⟨_, rfl⟩) (by with_unfolding_all rfl)))) pa_nil))))),
  ((st_seq (st_if (et_or (et_not (et_tru (ev_isi cls_str (ev_var 0)))) (et_not (et_test (ev_chain rd_le' rd_le' ev_int (ev_cb cd_len (ea_cons (ev_var 0) ea_nil)) ev_int))))
  (st_ret ev_bl)
  st_next)
  (st_ret (ev_cb cd_all (ea_cons (ev_list (fl_lc (vs := [1]) (it_any (ev_var 0)) (tg_name 1 (by decide)) et_yes (ev_op rd_inS (ev_var 1) ev_str))) ea_nil)))) : TSm K _ b_is_name)⟩
theorem ok_is_record (T : Tx K w mg) : FnOk P w K mg base CX0 3 T.f_is_record T.d_is_record ["thing"] (spM K 1 m_is_record) :=
  def_ok (N := N_is_record) T.F_is_record sc_is_record fun cdv A outer s H E hr => ⟨_,
  (pss_cons (ps_if (PW.pt (pw_or (pt_not (pt_tr (pe_callB call_isi (by rfl) T.n_isinstance (by decide +kernel) (pa_cons (pv 0) (pa_cons (pe_bltn (v := .ty "tuple") (by rfl) T.n_tuple (by decide +kernel) rfl) pa_nil))) (fun _ => rfl))) (pw_or1 (pt_not (pt_chain op_le op_le pe_int (pe_callB cr_len (by rfl) T.n_len (by decide +kernel) (pa_cons (pv 0) pa_nil)) (pe_glob (v := .int 8) (by rfl) T.c_MOST_WORDS ⟨_, rfl⟩)))))) (pss_one (ps_ret pe_bl)) pss_nil)
  (pss_one (ps_ret (pe_callB (cr_all rfl) (by rfl) T.n_all (by decide +kernel) (pa_cons (pe_lc (own := [("part", 1)]) (g := gName 1) (tt := tYes) rfl sc_is_record.nd (pi_any (pv 0)) (blkOk_by (N := N_is_record) (sc := defScope s_is_record) (by decide +kernel)) (fun _ _ _ _ _ => (pg_name (i := 1) sc_is_record.nd rfl (.inl rfl))) (fun _ _ _ _ _ => pts_nil) (fun _ _ _ _ _ => (pe_call (ok_is_word T) (hr.mono (by decide)) (by rfl) T.g_is_word T.F_is_word.kp T.b_is_word .nil pass0 (pa_cons (pv 1) pa_nil)))) pa_nil))))),
  ((st_seq (st_if (et_or (et_not (et_tru (ev_isi cls_tuple (ev_var 0)))) (et_not (et_test (ev_chain rd_le' rd_le' ev_int (ev_cb cd_len (ea_cons (ev_var 0) ea_nil)) ev_int))))
  (st_ret ev_bl)
  st_next)
  (st_ret (ev_cb cd_all (ea_cons (ev_list (fl_lc (vs := [1]) (it_any (ev_var 0)) (tg_name 1 (by decide)) et_yes (ev_call' (ea_cons (ev_var 1) ea_nil)))) ea_nil)))) : TSm K _ b_is_record)⟩
theorem ok_are_records (T : Tx K w mg) : FnOk P w K mg base CX0 4 T.f_are_records T.d_are_records ["thing"] (spM K 1 m_are_records) :=
  def_ok (N := N_are_records) T.F_are_records sc_are_records fun cdv A outer s H E hr => ⟨_,
  (pss_cons (ps_if (PW.pt (pw_or (pt_not (pt_tr (pe_callB call_isi (by rfl) T.n_isinstance (by decide +kernel) (pa_cons (pv 0) (pa_cons (pe_bltn (v := .ty "tuple") (by rfl) T.n_tuple (by decide +kernel) rfl) pa_nil))) (fun _ => rfl))) (pw_or1 (pt_cmpR op_gt (pe_callB cr_len (by rfl) T.n_len (by decide +kernel) (pa_cons (pv 0) pa_nil)) (pe_glob (v := .int 30) (by rfl) T.c_MOST_RECORDS ⟨_, rfl⟩) (nomark _))))) (pss_one (ps_ret pe_bl)) pss_nil)
  (pss_one (ps_ret (pe_callB (cr_all rfl) (by rfl) T.n_all (by decide +kernel) (pa_cons (pe_lc (own := [("part", 1)]) (g := gName 1) (tt := tYes) rfl sc_are_records.nd (pi_any (pv 0)) (blkOk_by (N := N_are_records) (sc := defScope s_are_records) (by decide +kernel)) (fun _ _ _ _ _ => (pg_name (i := 1) sc_are_records.nd rfl (.inl rfl))) (fun _ _ _ _ _ => pts_nil) (fun _ _ _ _ _ => (pe_call (ok_is_record T) (hr.mono (by decide)) (by rfl) T.g_is_record T.F_is_record.kp T.b_is_record .nil pass0 (pa_cons (pv 1) pa_nil)))) pa_nil))))),
  ((st_seq (st_if (et_or (et_not (et_tru (ev_isi cls_tuple (ev_var 0)))) (et_test (ev_op rd_gt' (ev_cb cd_len (ea_cons (ev_var 0) ea_nil)) ev_int)))
  (st_ret ev_bl)
  st_next)
  (st_ret (ev_cb cd_all (ea_cons (ev_list (fl_lc (vs := [1]) (it_any (ev_var 0)) (tg_name 1 (by decide)) et_yes (ev_call' (ea_cons (ev_var 1) ea_nil)))) ea_nil)))) : TSm K _ b_are_records)⟩
theorem ok__law_pick (T : Tx K w mg) : FnOk P w K mg base CX0 1 T.f__law_pick T.d__law_pick ["_law_script", "_law_k", "_law_many"] (spM K 3 m__law_pick) :=
  def_ok (N := N__law_pick) T.F__law_pick sc__law_pick fun cdv A outer s H E hr => ⟨_,
  (pss_cons (ps_set (i := 3) sc__law_pick.nd rfl (.inl rfl) (pe_ifExp (pt_cmpR (op_neD hr.units) (pv 0) (pe_lst pa_nil) (nomark _)) (pe_ix ix_seq (pv 0) (pe_op op_mod (pv 1) (pe_callB cr_len (by rfl) T.n_len (by decide +kernel) (pa_cons (pv 0) pa_nil))) (fun _ _ => rfl)) pe_int))
  (pss_cons (ps_par (i := 4) (j := 5) rfl sc__law_pick.nd rfl rfl (by decide) rfl rfl (pa_cons (pe_op op_fdivW (pv 3) (pe_op op_pow pe_int pe_int)) (pa_cons (pe_op op_fdivW (pv 1) (pe_callB (cr_max2 rfl) (by rfl) T.n_max (by decide +kernel) (pa_cons (pe_callB cr_len (by rfl) T.n_len (by decide +kernel) (pa_cons (pv 0) pa_nil)) (pa_cons pe_int pa_nil)))) pa_nil)) (by rfl))
  (pss_cons (ps_while PassesOwn.never (PW.pt (pw_and (pt_cmpR op_gt (pv 4) pe_int (nomark _)) (pw_and1 (pt_cmpR op_gt (pv 5) pe_int (nomark _))))) (pss_one (ps_par (i := 4) (j := 5) rfl sc__law_pick.nd rfl rfl (by decide) rfl rfl (pa_cons (pe_op op_fdivW (pv 4) pe_int) (pa_cons (pe_op op_sub (pv 5) pe_int) pa_nil)) (by rfl))))
  (pss_cons (ps_if (pt_cmpR op_gt (pv 4) pe_int (nomark _)) (pss_one (ps_ret (pe_op op_mod (pe_op op_mod (pv 4) pe_int) (pv 2)))) pss_nil)
  (pss_cons (ps_set (i := 6) sc__law_pick.nd rfl (.inl rfl) (pe_op op_mod (pe_op op_mulA (pe_op op_addA (pe_op op_mulA (pv 3) pe_int) (pe_op op_mulA pe_int (pe_op op_addA (pv 1) pe_int))) pe_int) pe_int))
  (pss_one (ps_ret (pe_op op_mod (pe_op op_mod (pe_op op_addA (pe_op op_mulA (pv 6) (pv 6)) (pe_op op_fdivW (pv 6) pe_int)) pe_int) (pv 2))))))))),
  ((st_seq (st_set 3 (ev_if (et_test (ev_op rd_ne (ev_var 0) (ev_list (fl_lst ea_nil)))) (ev_op rd_ix (ev_var 0) (ev_op rd_mod (ev_var 1) (ev_cb cd_len (ea_cons (ev_var 0) ea_nil)))) ev_int))
  (st_seq (st_par (ev_op rd_fdiv (ev_var 3) (ev_op rd_pow ev_int ev_int)) (ev_op rd_fdiv (ev_var 1) (ev_cb cd_max2 (ea_cons (ev_cb cd_len (ea_cons (ev_var 0) ea_nil)) (ea_cons ev_int ea_nil)))))
  (st_seq (st_while fuel__law_pick_0 (et_and (et_test (ev_op rd_gt' (ev_var 4) ev_int)) (et_test (ev_op rd_gt' (ev_var 5) ev_int)))
  (st_par (ev_op rd_fdiv (ev_var 4) ev_int) (ev_op rd_sub (ev_var 5) ev_int)))
  (st_seq (st_if (et_test (ev_op rd_gt' (ev_var 4) ev_int))
  (st_ret (ev_op rd_mod (ev_op rd_mod (ev_var 4) ev_int) (ev_var 2)))
  st_next)
  (st_seq (st_set 6 (ev_op rd_mod (ev_op rd_mul (ev_op rd_add (ev_op rd_mul (ev_var 3) ev_int) (ev_op rd_mul ev_int (ev_op rd_add (ev_var 1) ev_int))) ev_int) ev_int))
  (st_ret (ev_op rd_mod (ev_op rd_mod (ev_op rd_add (ev_op rd_mul (ev_var 6) (ev_var 6)) (ev_op rd_fdiv (ev_var 6) ev_int)) ev_int) (ev_var 2)))))))) : TSm K _ b__law_pick)⟩
theorem ok__law_odd (T : Tx K w mg) : FnOk P w K mg base CX0 2 T.f__law_odd T.d__law_odd ["_law_script", "_law_at"] (spM K 2 m__law_odd) :=
  def_ok (N := N__law_odd) T.F__law_odd sc__law_odd fun cdv A outer s H E hr => ⟨_,
  (pss_one (ps_ret (pe_lst (pa_cons pe_non (pa_cons pe_bl (pa_cons pe_str (pa_cons pe_str (pa_cons pe_str (pa_cons (pe_lst (pa_cons pe_int pa_nil)) (pa_cons (pe_tup (pa_cons pe_int pa_nil)) (pa_cons (pe_op op_sub (pe_un un_neg pe_int) (pe_call (ok__law_pick T) (hr.mono (by decide)) (by rfl) T.g__law_pick T.F__law_pick.kp T.b__law_pick .nil pass0 (pa_cons (pv 0) (pa_cons (pv 1) (pa_cons pe_int pa_nil))))) (pa_cons pe_str (pa_cons (pe_lst (pa_cons (pe_lst (pa_cons pe_str pa_nil)) pa_nil)) (pa_cons (pe_op op_pow pe_int pe_int) (pa_cons (pe_tup (pa_cons pe_str pa_nil)) pa_nil))))))))))))))),
  ((st_ret (ev_list (fl_lst (ea_cons ev_non (ea_cons ev_bl (ea_cons ev_str (ea_cons ev_str (ea_cons ev_str (ea_cons (ev_list (fl_lst (ea_cons ev_int ea_nil))) (ea_cons (ev_tup (ea_cons ev_int ea_nil)) (ea_cons (ev_op rd_sub (ev_un ud_neg ev_int) (ev_call' (ea_cons (ev_var 0) (ea_cons (ev_var 1) (ea_cons ev_int ea_nil))))) (ea_cons ev_str (ea_cons (ev_list (fl_lst (ea_cons (ev_list (fl_lst (ea_cons ev_str ea_nil))) ea_nil))) (ea_cons (ev_op rd_pow ev_int ev_int) (ea_cons (ev_tup (ea_cons ev_str ea_nil)) ea_nil))))))))))))))) : TSm K _ b__law_odd)⟩
theorem ok_law (T : Tx K w mg) : FnOk P w K mg base CX0 5 T.f_law T.d_law ["_law_script"] (spM K 1 m_law) :=
  def_ok (N := N_law) T.F_law sc_law fun cdv A outer s H E hr => ⟨_,
  (pss_cons (ps_par (i := 1) (j := 2) rfl sc_law.nd rfl rfl (by decide) rfl rfl (pa_cons (pe_op op_addA pe_int (pe_call (ok__law_pick T) (hr.mono (by decide)) (by rfl) T.g__law_pick T.F__law_pick.kp T.b__law_pick .nil pass0 (pa_cons (pv 0) (pa_cons pe_int (pa_cons pe_int pa_nil))))) (pa_cons (pe_call (ok__law_pick T) (hr.mono (by decide)) (by rfl) T.g__law_pick T.F__law_pick.kp T.b__law_pick .nil pass0 (pa_cons (pv 0) (pa_cons pe_int (pa_cons pe_int pa_nil)))) pa_nil)) (by rfl))
  (pss_cons (ps_set (i := 3) sc_law.nd rfl (.inl rfl) (pe_slice sl_any pe_str po_none (po_some (pv 1))))
  (pss_cons (ps_if (pt_cmpR (op_neD hr.units) (pe_lst (pa_cons (pe_call (ok_is_name T) (hr.mono (by decide)) (by rfl) T.g_is_name T.F_is_name.kp T.b_is_name .nil pass0 (pa_cons (pv 3) pa_nil)) (pa_cons (pe_call (ok_is_name T) (hr.mono (by decide)) (by rfl) T.g_is_name T.F_is_name.kp T.b_is_name .nil pass0 (pa_cons (pe_op op_addA (pv 3) pe_str) pa_nil)) (pa_cons (pe_call (ok_is_name T) (hr.mono (by decide)) (by rfl) T.g_is_name T.F_is_name.kp T.b_is_name .nil pass0 (pa_cons (pe_op op_addA (pe_slice sl_any (pv 3) po_none (po_some pe_int)) pe_str) pa_nil)) (pa_cons (pe_call (ok_is_name T) (hr.mono (by decide)) (by rfl) T.g_is_name T.F_is_name.kp T.b_is_name .nil pass0 (pa_cons pe_str pa_nil)) pa_nil))))) (pe_lst (pa_cons pe_bl (pa_cons (pe_cmpR op_lt (pv 1) pe_int (nomark _)) (pa_cons pe_bl (pa_cons pe_bl pa_nil))))) (nomark _)) (pss_one (ps_ret pe_bl)) pss_nil)
  (pss_cons (ps_set (i := 4) sc_law.nd rfl (.inl rfl) (pe_op op_mulA (pe_tup (pa_cons (pv 2) pa_nil)) (pv 1)))
  (pss_cons (ps_if (PW.pt (pw_or (pt_cmpR op_notA (pe_call (ok_is_record T) (hr.mono (by decide)) (by rfl) T.g_is_record T.F_is_record.kp T.b_is_record .nil pass0 (pa_cons (pv 4) pa_nil)) pe_bl (nomark _)) (pw_or (pt_cmpR (op_neD hr.units) (pe_call (ok_is_record T) (hr.mono (by decide)) (by rfl) T.g_is_record T.F_is_record.kp T.b_is_record .nil pass0 (pa_cons (pe_op op_addA (pv 4) (pe_tup (pa_cons pe_int pa_nil))) pa_nil)) (pe_cmpR op_lt (pv 1) pe_int (nomark _)) (nomark _)) (pw_or1 (pt_tr (pe_call (ok_is_record T) (hr.mono (by decide)) (by rfl) T.g_is_record T.F_is_record.kp T.b_is_record .nil pass0 (pa_cons (pe_op op_addA (pe_slice sl_any (pv 4) po_none (po_some (pe_un un_neg pe_int))) (pe_tup (pa_cons pe_int pa_nil))) pa_nil)) (fun _ => rfl)))))) (pss_one (ps_ret pe_bl)) pss_nil)
  (pss_cons (ps_if (PW.pt (pw_or (pt_cmpR op_notA (pe_call (ok_is_record T) (hr.mono (by decide)) (by rfl) T.g_is_record T.F_is_record.kp T.b_is_record .nil pass0 (pa_cons (pe_callTy cr_lstOf (by rfl) T.n_list (by decide +kernel) (pa_cons (pv 4) pa_nil)) pa_nil)) pe_bl (nomark _)) (pw_or (pt_tr (pe_call (ok_is_record T) (hr.mono (by decide)) (by rfl) T.g_is_record T.F_is_record.kp T.b_is_record .nil pass0 (pa_cons (pe_op op_addA (pe_slice sl_any (pv 4) po_none (po_some (pe_un un_neg pe_int))) (pe_tup (pa_cons pe_bl pa_nil))) pa_nil)) (fun _ => rfl)) (pw_or1 (pt_tr (pe_call (ok_is_record T) (hr.mono (by decide)) (by rfl) T.g_is_record T.F_is_record.kp T.b_is_record .nil pass0 (pa_cons (pe_tup pa_nil) pa_nil)) (fun _ => rfl)))))) (pss_one (ps_ret pe_bl)) pss_nil)
  (pss_cons (ps_set (i := 5) sc_law.nd rfl (.inl rfl) (pe_op op_mulA (pe_tup (pa_cons (pv 4) pa_nil)) (pe_call (ok__law_pick T) (hr.mono (by decide)) (by rfl) T.g__law_pick T.F__law_pick.kp T.b__law_pick .nil pass0 (pa_cons (pv 0) (pa_cons pe_int (pa_cons pe_int pa_nil))))))
  (pss_cons (ps_if (PW.pt (pw_or (pt_cmpR op_notA (pe_call (ok_are_records T) (hr.mono (by decide)) (by rfl) T.g_are_records T.F_are_records.kp T.b_are_records .nil pass0 (pa_cons (pv 5) pa_nil)) pe_bl (nomark _)) (pw_or (pt_tr (pe_call (ok_are_records T) (hr.mono (by decide)) (by rfl) T.g_are_records T.F_are_records.kp T.b_are_records .nil pass0 (pa_cons (pe_callTy cr_lstOf (by rfl) T.n_list (by decide +kernel) (pa_cons (pv 5) pa_nil)) pa_nil)) (fun _ => rfl)) (pw_or1 (pt_tr (pe_call (ok_are_records T) (hr.mono (by decide)) (by rfl) T.g_are_records T.F_are_records.kp T.b_are_records .nil pass0 (pa_cons (pe_op op_mulA (pe_tup (pa_cons (pv 4) pa_nil)) pe_int) pa_nil)) (fun _ => rfl)))))) (pss_one (ps_ret pe_bl)) pss_nil)
  (pss_cons (ps_for PassesOwn.never rfl (pi_any (pe_call (ok__law_odd T) (hr.mono (by decide)) (by rfl) T.g__law_odd T.F__law_odd.kp T.b__law_odd .nil pass0 (pa_cons (pv 0) (pa_cons pe_int pa_nil)))) (pg_name (i := 6) sc_law.nd rfl (.inl rfl)) (pss_cons (ps_if (PW.pt (pw_or (pt_cmpR op_notA (pe_call (ok_is_name T) (hr.mono (by decide)) (by rfl) T.g_is_name T.F_is_name.kp T.b_is_name .nil pass0 (pa_cons (pv 6) pa_nil)) pe_bl (nomark _)) (pw_or1 (pt_cmpR (op_neD hr.units) (pe_call (ok_are_records T) (hr.mono (by decide)) (by rfl) T.g_are_records T.F_are_records.kp T.b_are_records .nil pass0 (pa_cons (pe_tup (pa_cons (pv 4) (pa_cons (pv 6) pa_nil))) pa_nil)) (pe_cmpR (op_eqD hr.units) (pv 6) (pe_tup (pa_cons pe_int pa_nil)) (nomark _)) (nomark _))))) (pss_one (ps_ret pe_bl)) pss_nil)
  (pss_one (ps_if (PW.pt (pw_or (pt_cmpR op_notA (pe_call (ok_is_record T) (hr.mono (by decide)) (by rfl) T.g_is_record T.F_is_record.kp T.b_is_record .nil pass0 (pa_cons (pe_tup (pa_cons (pv 2) (pa_cons (pv 6) pa_nil))) pa_nil)) pe_bl (nomark _)) (pw_or1 (pt_cmpR (op_neD hr.units) (pe_call (ok_is_record T) (hr.mono (by decide)) (by rfl) T.g_is_record T.F_is_record.kp T.b_is_record .nil pass0 (pa_cons (pv 6) pa_nil)) (pe_cmpR (op_eqD hr.units) (pv 6) (pe_tup (pa_cons pe_int pa_nil)) (nomark _)) (nomark _))))) (pss_one (ps_ret pe_bl)) pss_nil))))
  (pss_one (ps_ret (pe_and (pe_cmpR op_isA (pe_call (ok_are_records T) (hr.mono (by decide)) (by rfl) T.g_are_records T.F_are_records.kp T.b_are_records .nil pass0 (pa_cons (pe_tup pa_nil) pa_nil)) pe_bl (nomark _)) (pe_and (pe_cmpR op_isA (pe_call (ok_are_records T) (hr.mono (by decide)) (by rfl) T.g_are_records T.F_are_records.kp T.b_are_records .nil pass0 (pa_cons (pe_tup (pa_cons (pv 4) (pa_cons (pe_tup pa_nil) pa_nil))) pa_nil)) pe_bl (nomark _)) (pe_one (pe_cmpR op_isA (pe_call (ok_is_record T) (hr.mono (by decide)) (by rfl) T.g_is_record T.F_is_record.kp T.b_is_record .nil pass0 (pa_cons (pe_tup (pa_cons pe_int (pa_cons pe_int pa_nil))) pa_nil)) pe_bl (nomark _)))))))))))))))),
  ((st_seq (st_par (ev_op rd_add ev_int (ev_call' (ea_cons (ev_var 0) (ea_cons ev_int (ea_cons ev_int ea_nil))))) (ev_call' (ea_cons (ev_var 0) (ea_cons ev_int (ea_cons ev_int ea_nil)))))
  (st_seq (st_set 3 (ev_sl ev_str po_no (po_part (ev_var 1))))
  (st_seq (st_if (et_test (ev_op rd_ne (ev_list (fl_lst (ea_cons (ev_call' (ea_cons (ev_var 3) ea_nil)) (ea_cons (ev_call' (ea_cons (ev_op rd_add (ev_var 3) ev_str) ea_nil)) (ea_cons (ev_call' (ea_cons (ev_op rd_add (ev_sl (ev_var 3) po_no (po_part ev_int)) ev_str) ea_nil)) (ea_cons (ev_call' (ea_cons ev_str ea_nil)) ea_nil)))))) (ev_list (fl_lst (ea_cons ev_bl (ea_cons (ev_op rd_lt' (ev_var 1) ev_int) (ea_cons ev_bl (ea_cons ev_bl ea_nil))))))))
  (st_ret ev_bl)
  st_next)
  (st_seq (st_set 4 (ev_op rd_mul (ev_tup (ea_cons (ev_var 2) ea_nil)) (ev_var 1)))
  (st_seq (st_if (et_or (et_test (ev_op rd_isnot (ev_call' (ea_cons (ev_var 4) ea_nil)) ev_bl)) (et_or (et_test (ev_op rd_ne (ev_call' (ea_cons (ev_op rd_add (ev_var 4) (ev_tup (ea_cons ev_int ea_nil))) ea_nil)) (ev_op rd_lt' (ev_var 1) ev_int))) (et_tru (ev_call' (ea_cons (ev_op rd_add (ev_sl (ev_var 4) po_no (po_part (ev_un ud_neg ev_int))) (ev_tup (ea_cons ev_int ea_nil))) ea_nil)))))
  (st_ret ev_bl)
  st_next)
  (st_seq (st_if (et_or (et_test (ev_op rd_isnot (ev_call' (ea_cons (ev_list (fl_cb cl_lstOf (ea_cons (ev_var 4) ea_nil))) ea_nil)) ev_bl)) (et_or (et_tru (ev_call' (ea_cons (ev_op rd_add (ev_sl (ev_var 4) po_no (po_part (ev_un ud_neg ev_int))) (ev_tup (ea_cons ev_bl ea_nil))) ea_nil))) (et_tru (ev_call' (ea_cons (ev_tup ea_nil) ea_nil)))))
  (st_ret ev_bl)
  st_next)
  (st_seq (st_set 5 (ev_op rd_mul (ev_tup (ea_cons (ev_var 4) ea_nil)) (ev_call' (ea_cons (ev_var 0) (ea_cons ev_int (ea_cons ev_int ea_nil))))))
  (st_seq (st_if (et_or (et_test (ev_op rd_isnot (ev_call' (ea_cons (ev_var 5) ea_nil)) ev_bl)) (et_or (et_tru (ev_call' (ea_cons (ev_list (fl_cb cl_lstOf (ea_cons (ev_var 5) ea_nil))) ea_nil))) (et_tru (ev_call' (ea_cons (ev_op rd_mul (ev_tup (ea_cons (ev_var 4) ea_nil)) ev_int) ea_nil)))))
  (st_ret ev_bl)
  st_next)
  (st_seq (st_for (vs := [6]) (it_any (ev_call' (ea_cons (ev_var 0) (ea_cons ev_int ea_nil)))) (tg_name 6 (by decide))
  (st_seq (st_if (et_or (et_test (ev_op rd_isnot (ev_call' (ea_cons (ev_var 6) ea_nil)) ev_bl)) (et_test (ev_op rd_ne (ev_call' (ea_cons (ev_tup (ea_cons (ev_var 4) (ea_cons (ev_var 6) ea_nil))) ea_nil)) (ev_op rd_eq (ev_var 6) (ev_tup (ea_cons ev_int ea_nil))))))
  (st_ret ev_bl)
  st_next)
  (st_if (et_or (et_test (ev_op rd_isnot (ev_call' (ea_cons (ev_tup (ea_cons (ev_var 2) (ea_cons (ev_var 6) ea_nil))) ea_nil)) ev_bl)) (et_test (ev_op rd_ne (ev_call' (ea_cons (ev_var 6) ea_nil)) (ev_op rd_eq (ev_var 6) (ev_tup (ea_cons ev_int ea_nil))))))
  (st_ret ev_bl)
  st_next)))
  (st_ret (ev_andV (ev_op rd_is (ev_call' (ea_cons (ev_tup ea_nil) ea_nil)) ev_bl) (ev_andV (ev_op rd_is (ev_call' (ea_cons (ev_tup (ea_cons (ev_var 4) (ea_cons (ev_tup ea_nil) ea_nil))) ea_nil)) ev_bl) (ev_op rd_is (ev_call' (ea_cons (ev_tup (ea_cons ev_int (ea_cons ev_int ea_nil))) ea_nil)) ev_bl))))))))))))) : TSm K _ b_law)⟩
end
end DD

set_option Elab.async false
set_option linter.all false
set_option maxRecDepth 100000
set_option maxHeartbeats 4000000
namespace DD
open PySem PySem.Spec PyProof.Rows L2
theorem k_pick : m__law_pick = m_pick := rfl
theorem k_name : m_is_name = R.m_is_name := rfl
theorem k_rec : m_is_record = R.m_is_record := rfl
theorem k_recs : m_are_records = R.m_are_records := rfl
open R (isNam isRec areRecs isWord okLen)
def nm (many : Int) : Str := cutS "abcdefgh" none (some many)
theorem nm_facts {many : Int} (h1 : 1 ≤ many) (h8 : many ≤ 8) : isNam (.str (nm many)) = true ∧ isNam (.str (nm many ++ "i")) = decide (many < 8) ∧ isNam (.str (cutS (nm many) none (some 7) ++ "I")) = false ∧ (nm many).length ≤ 8 ∧ (cutS (nm many) none (some 7)).length ≤ 8 := by
  have : many = 1 ∨ many = 2 ∨ many = 3 ∨ many = 4 ∨ many = 5 ∨ many = 6 ∨ many = 7 ∨ many = 8 := by omega
  rcases this with rfl | rfl | rfl | rfl | rfl | rfl | rfl | rfl <;> decide +kernel
theorem isNam0 : isNam (.str ("" : Str)) = false := by decide +kernel
/-- a row of one word, so many times -/
def row (w : Int) (n : Nat) : List D := List.replicate n (.int w)
theorem row_len {w : Int} {n : Nat} : (row w n).length = n := List.length_replicate
theorem row_words {w : Int} {n : Nat} (h0 : 0 ≤ w) (h1 : w ≤ 9999) : (row w n).all isWord = true := by
  rw [List.all_eq_true]
  intro x hx
  cases List.eq_of_mem_replicate hx
  show (decide (0 ≤ w) && decide (w ≤ 9999)) = true
  rw [decide_eq_true h0, decide_eq_true h1]
  rfl
theorem flat1 {α : Type} (x : α) : ∀ n : Nat, (List.replicate n [x]).flatten = List.replicate n x
  | 0 => rfl
  | n + 1 => by rw [List.replicate_succ, List.flatten_cons, flat1 x n]; rfl
theorem cut_len (ds : List D) (lo hi : Option Int) : (cutD ds lo hi).length ≤ ds.length := by
  unfold cutD
  rw [List.length_take, List.length_drop]
  omega
theorem is_t {a : D} {m : En → Option D} {ρ : En} {b c : Bool} (h : m ρ = some (.bool b)) : mTest (mOp dIsNot m (mC (.bool c))) ρ = some (!decide (b = c)) := by
  refine test_of ?_
  rw [op_of h (show mC (.bool c) ρ = some (.bool c) from rfl)]
  rfl
theorem shaped_bools (bs : List Bool) : SeqAt.shaped (.list (bs.map PyData.bool)) = true := by
  have h1 : ∀ bs : List Bool, PyData.canLayAll0 (bs.map PyData.bool) = true := by
    intro bs
    induction bs with
    | nil => simp [PyData.canLayAll0]
    | cons n r ih => simp [PyData.canLayAll0, PyData.canLay0, ih]
  have h2 : ∀ bs : List Bool, PyData.depthAll (bs.map PyData.bool) = 0 := by
    intro bs
    induction bs with
    | nil => simp [PyData.depthAll]
    | cons n r ih => simp [PyData.depthAll, PyData.depth, ih]
  unfold SeqAt.shaped
  simp [PyData.canLay0, PyData.depth, h1, h2]
theorem ne_bools {p q : Bool} {m n : En → Option D} {ρ : En} (h : m ρ = some (.bool p)) (k : n ρ = some (.bool q)) : mTest (mOp dNe m n) ρ = some (!(p == q)) := by
  refine test_of ?_
  rw [op_of h k]
  rfl
/-- the odd things -/
def odds (q : Int) : List D := [.none, .bool true, .str "", .str "A", .str "5", .list [.int 1], .tuple [.int 1], .int (-1 - q), .str "abcdefghi", .list [.list [.str "a"]], .int (10 ^ 9), .tuple [.str "A"]]
theorem odds_ok {q : Int} (h0 : 0 ≤ q) : ∀ x ∈ odds q, isNam x = false ∧ isWord x = false ∧ okLen x ∧ SeqAt.shaped x = true ∧ isRec x = PyData.eqv x (.tuple [.int 1]) ∧ ∀ ds, x = .tuple ds → ∀ y ∈ ds, okLen y := by
  intro x hx
  simp only [odds, List.mem_cons, List.mem_nil_iff, or_false] at hx
  have one : (-1 - q) ≠ 0 ∧ ¬ (0 ≤ -1 - q) := by omega
  rcases hx with rfl | rfl | rfl | rfl | rfl | rfl | rfl | rfl | rfl | rfl | rfl | rfl
  · exact ⟨rfl, rfl, trivial, by decide +kernel, rfl, fun _ z => nomatch z⟩
  · exact ⟨rfl, rfl, trivial, by decide +kernel, rfl, fun _ z => nomatch z⟩
  · exact ⟨by decide +kernel, rfl, (show Str.length _ ≤ cap by decide +kernel), by decide +kernel, rfl, fun _ z => nomatch z⟩
  · exact ⟨by decide +kernel, rfl, (show Str.length _ ≤ cap by decide +kernel), by decide +kernel, rfl, fun _ z => nomatch z⟩
  · exact ⟨by decide +kernel, rfl, (show Str.length _ ≤ cap by decide +kernel), by decide +kernel, rfl, fun _ z => nomatch z⟩
  · exact ⟨rfl, rfl, trivial, by decide +kernel, rfl, fun _ z => nomatch z⟩
  · refine ⟨rfl, rfl, (show List.length _ ≤ cap by decide), by decide +kernel, by decide +kernel, fun ds z y hy => ?_⟩
    cases z
    simp only [List.mem_cons, List.mem_nil_iff, or_false] at hy
    subst hy
    trivial
  · refine ⟨rfl, ?_, trivial, ?_, rfl, fun _ z => nomatch z⟩
    · show (decide (0 ≤ -1 - q) && _) = false
      rw [decide_eq_false one.2]
      rfl
    · simp [SeqAt.shaped, PyData.canLay0, PyData.depth]
  · exact ⟨by decide +kernel, rfl, (show Str.length _ ≤ cap by decide +kernel), by decide +kernel, rfl, fun _ z => nomatch z⟩
  · exact ⟨rfl, rfl, trivial, by decide +kernel, rfl, fun _ z => nomatch z⟩
  · exact ⟨rfl, by decide +kernel, trivial, by decide +kernel, rfl, fun _ z => nomatch z⟩
  · refine ⟨rfl, rfl, (show List.length _ ≤ cap by decide), by decide +kernel, by decide +kernel, fun ds z y hy => ?_⟩
    cases z
    simp only [List.mem_cons, List.mem_nil_iff, or_false] at hy
    subst hy
    show (Str.length _) ≤ cap
    decide +kernel

theorem odd_eq {sc : D} {at0 q : Int} (h : m_pick [sc, .int at0, .int 9] = some (.int q)) : m__law_odd [sc, .int at0] = some (.list (odds q)) := by
  refine mDef_rt (ret_of (list_of ?_))
  have e : (mOp dSub (mUn dNeg (mC (.int 1))) (mCall (lim 3 m__law_pick) (mCons (mVar 0) (mCons (mVar 1) (mCons (mC (.int 9)) mNil))))) (start0 2 [sc, .int at0]) = some (.int (-1 - q)) := by
    have e1 : mCall (lim 3 m__law_pick) (mCons (mVar 0) (mCons (mVar 1) (mCons (mC (.int 9)) mNil))) (start0 2 [sc, .int at0]) = some (.int q) := h
    rw [op_of (show mUn dNeg (mC (.int 1)) _ = some (.int (-1)) from rfl) e1]
    rfl
  refine lst_of (x := odds q) ?_ (by show 12 ≤ cap; decide)
  refine cons_of rfl (cons_of rfl (cons_of rfl (cons_of rfl (cons_of rfl (cons_of rfl (cons_of rfl (cons_of e (cons_of rfl (cons_of rfl (cons_of rfl (cons_of rfl nil_of)))))))))))
theorem loop_all {g : D → En → Option En} {b : En → Option Fl} {Pv : En → Prop} : ∀ {ds : List D} {ρ : En}, Pv ρ → (∀ d ∈ ds, ∀ ρ, Pv ρ → ∃ ρ1 ρ2, g d ρ = some ρ1 ∧ b ρ1 = some (.nx ρ2) ∧ Pv ρ2) → ∃ ρ', loop g b ds ρ = some (.nx ρ') ∧ Pv ρ'
  | [], ρ, h, _ => ⟨ρ, rfl, h⟩
  | d :: ds, ρ, h, k => by
    obtain ⟨ρ1, ρ2, h1, h2, h3⟩ := k d List.mem_cons_self ρ h
    obtain ⟨ρ', h4, h5⟩ := loop_all (g := g) (b := b) (Pv := Pv) (ds := ds) h3 fun x hx => k x (List.mem_cons_of_mem _ hx)
    refine ⟨ρ', ?_, h5⟩
    have : loop g b (d :: ds) ρ = (g d ρ).bind fun ρ1 => (b ρ1).bind fun f => match f with
      | .nx ρ2 => loop g b ds ρ2
      | .ct ρ2 => loop g b ds ρ2
      | .bk ρ2 => some (.nx ρ2)
      | .rt d => some (.rt d) := rfl
    rw [this, h1]
    show ((b ρ1).bind fun f => _) = _
    rw [h2]
    exact h4
theorem arg1 {f : List D → Option D} {m : En → Option D} {ρ : En} {x : D} (h : m ρ = some x) : mCall (lim 1 f) (mCons m mNil) ρ = f [x] := by rw [call_of (cons_of h nil_of), lim1]
theorem recs_of {ds : List D} (h : ds.length ≤ cap) (k : ∀ x ∈ ds, okLen x) : R.m_are_records [.tuple ds] = some (.bool (areRecs (.tuple ds))) := R.recs_eq _ h fun es e x hx => by cases e; exact k x hx
theorem law_true (ns : List Int) (h63 : ns.length ≤ 63) : m_law [.list (ns.map .int)] = some (.bool true) := by
  obtain ⟨r0, p0, a0, b0⟩ := pick_ok ns h63 60 8 (by decide) (by decide) (by decide) (by decide)
  obtain ⟨w, p1, a1, b1⟩ := pick_ok ns h63 61 10000 (by decide) (by decide) (by decide) (by decide)
  obtain ⟨m2, p2, a2, b2⟩ := pick_ok ns h63 62 31 (by decide) (by decide) (by decide) (by decide)
  obtain ⟨q, p3, a3, b3⟩ := pick_ok ns h63 63 9 (by decide) (by decide) (by decide) (by decide)
  generalize hL : PyData.list (ns.map .int) = L at *
  obtain ⟨many, hmany, h1, h8⟩ : ∃ many : Int, 1 + r0 = many ∧ 1 ≤ many ∧ many ≤ 8 := ⟨1 + r0, rfl, by omega, by omega⟩
  obtain ⟨n, hn⟩ : ∃ n : Nat, many = (n : Int) := ⟨many.toNat, by omega⟩
  obtain ⟨f1, f2, f3, f4, f5⟩ := nm_facts h1 h8
  have hw1 : w ≤ 9999 := by omega
  have rlen : (row w n).length = n := row_len
  have rwords := row_words (n := n) a1 hw1
  have rok : (row w n).length ≤ cap := by rw [rlen]; exact Nat.le_trans (show n ≤ 8 by omega) (by decide)
  have rrec : isRec (.tuple (row w n)) = true := by
    show ((decide ((1 : Int) ≤ (row w n).length) && decide (((row w n).length : Int) ≤ 8)) && (row w n).all isWord) = true
    rw [rlen, rwords, decide_eq_true (by omega), decide_eq_true (by omega)]
    rfl
  refine mDef_rt ?_
  unfold b_law
  -- many, word
  have s1 : sPar 1 2 (mOp dAdd (mC (.int 1)) (mCall (lim 3 m__law_pick) (mCons (mVar 0) (mCons (mC (.int 60)) (mCons (mC (.int 8)) mNil))))) (mCall (lim 3 m__law_pick) (mCons (mVar 0) (mCons (mC (.int 61)) (mCons (mC (.int 10000)) mNil)))) (start0 7 [L]) =
      some (.nx [some (.val L), some (.val (.int many)), some (.val (.int w)), none, none, none, none]) := by
    have e1 : mCall (lim 3 m__law_pick) (mCons (mVar 0) (mCons (mC (.int 60)) (mCons (mC (.int 8)) mNil))) (start0 7 [L]) = some (.int r0) := p0
    have e2 : mCall (lim 3 m__law_pick) (mCons (mVar 0) (mCons (mC (.int 61)) (mCons (mC (.int 10000)) mNil))) (start0 7 [L]) = some (.int w) := p1
    have e3 : mOp dAdd (mC (.int 1)) (mCall (lim 3 m__law_pick) (mCons (mVar 0) (mCons (mC (.int 60)) (mCons (mC (.int 8)) mNil)))) (start0 7 [L]) = some (.int many) := by
      rw [op_of (show mC (.int 1) _ = some (.int 1) from rfl) e1, ← hmany]
      rfl
    rw [par_set e3 e2]
    rfl
  rw [seq_nx s1]
  -- name
  have s2 : sAsg (mSl (mC (.str ("abcdefgh" : Str))) mNoPart (mPart (mVar 1))) (gSet 3) [some (.val L), some (.val (.int many)), some (.val (.int w)), none, none, none, none] =
      some (.nx [some (.val L), some (.val (.int many)), some (.val (.int w)), some (.val (.str (nm many))), none, none, none]) := rfl
  rw [seq_nx s2]
  -- names asked
  have z : ∀ s : Str, s.length ≤ 20 → R.m_is_name [.str s] = some (.bool (isNam (.str s))) := fun s h => R.name_eq _ (show s.length ≤ cap from Nat.le_trans h (by decide))
  have addS : ∀ (s t : Str), s.length ≤ 8 → t.length = 1 → dAdd (.str s) (.str t) = some (.str (s ++ t)) ∧ (s ++ t).length ≤ 20 := fun s t h k => by
    refine ⟨if_pos (by rw [k]; exact Nat.le_trans (Nat.add_le_add_right h 1) (by decide)), ?_⟩
    have : (s ++ t).length = s.length + t.length := by
      show (s.cps ++ t.cps).size = _
      rw [Array.size_append]
      rfl
    omega
  have s3 : sIf (mTest (mOp dNe (mList (mLst (mCons (mCall (lim 1 m_is_name) (mCons (mVar 3) mNil)) (mCons (mCall (lim 1 m_is_name) (mCons (mOp dAdd (mVar 3) (mC (.str ("i" : Str)))) mNil)) (mCons (mCall (lim 1 m_is_name) (mCons (mOp dAdd (mSl (mVar 3) mNoPart (mPart (mC (.int 7)))) (mC (.str ("I" : Str)))) mNil)) (mCons (mCall (lim 1 m_is_name) (mCons (mC (.str ("" : Str))) mNil)) mNil)))))) (mList (mLst (mCons (mC (.bool true)) (mCons (mOp dLt (mVar 1) (mC (.int 8))) (mCons (mC (.bool false)) (mCons (mC (.bool false)) mNil))))))))
      (sRet (mC (.bool false))) sNext [some (.val L), some (.val (.int many)), some (.val (.int w)), some (.val (.str (nm many))), none, none, none] = some (.nx [some (.val L), some (.val (.int many)), some (.val (.int w)), some (.val (.str (nm many))), none, none, none]) := by
    generalize hρ : [some (Sl.val L), some (Sl.val (.int many)), some (Sl.val (.int w)), some (Sl.val (.str (nm many))), none, none, none] = ρ
    have v3 : mVar 3 ρ = some (.str (nm many)) := by rw [← hρ]; rfl
    have v1 : mVar 1 ρ = some (.int many) := by rw [← hρ]; rfl
    have e1 : mCall (lim 1 m_is_name) (mCons (mVar 3) mNil) ρ = some (.bool true) := by
      rw [arg1 v3, k_name, z _ (Nat.le_trans f4 (by decide)), f1]
    have e2 : mCall (lim 1 m_is_name) (mCons (mOp dAdd (mVar 3) (mC (.str ("i" : Str)))) mNil) ρ = some (.bool (decide (many < 8))) := by
      obtain ⟨g1, g2⟩ := addS (nm many) "i" f4 (by decide +kernel)
      rw [call_of (cons_of (by rw [op_of v3 (show mC (.str ("i" : Str)) ρ = some (.str ("i" : Str)) from rfl), g1]) nil_of), lim1, k_name, z _ g2, f2]
    have e3 : mCall (lim 1 m_is_name) (mCons (mOp dAdd (mSl (mVar 3) mNoPart (mPart (mC (.int 7)))) (mC (.str ("I" : Str)))) mNil) ρ = some (.bool false) := by
      obtain ⟨g1, g2⟩ := addS (cutS (nm many) none (some 7)) "I" f5 (by decide +kernel)
      have g3 : mSl (mVar 3) mNoPart (mPart (mC (.int 7))) ρ = some (.str (cutS (nm many) none (some 7))) := by
        unfold mSl
        rw [v3]
        show (if (nm many).length ≤ cap then some (PyData.str (cutS (nm many) none (some 7))) else none) = _
        rw [if_pos (Nat.le_trans f4 (by decide))]
      rw [call_of (cons_of (by rw [op_of g3 (show mC (.str ("I" : Str)) ρ = some (.str ("I" : Str)) from rfl), g1]) nil_of), lim1, k_name, z _ g2, f3]
    have e4 : mCall (lim 1 m_is_name) (mCons (mC (.str ("" : Str))) mNil) ρ = some (.bool false) := by
      rw [call_of (cons_of (show mC (.str ("" : Str)) ρ = some (.str ("" : Str)) from rfl) nil_of), lim1, k_name, z _ (by decide +kernel), isNam0]
    have e5 : mOp dLt (mVar 1) (mC (.int 8)) ρ = some (.bool (decide (many < 8))) := by
      rw [op_of v1 (show mC (.int 8) ρ = some (.int 8) from rfl)]
      rfl
    have l1 := list_of (lst_of (cons_of e1 (cons_of e2 (cons_of e3 (cons_of e4 nil_of)))) (by show 4 ≤ cap; decide))
    have l2 := list_of (lst_of (cons_of (show mC (.bool true) ρ = some (.bool true) from rfl) (cons_of e5 (cons_of (show mC (.bool false) ρ = some (.bool false) from rfl) (cons_of (show mC (.bool false) ρ = some (.bool false) from rfl) nil_of)))) (by show 4 ≤ cap; decide))
    have t : mTest (mOp dNe (mList (mLst (mCons (mCall (lim 1 m_is_name) (mCons (mVar 3) mNil)) (mCons (mCall (lim 1 m_is_name) (mCons (mOp dAdd (mVar 3) (mC (.str ("i" : Str)))) mNil)) (mCons (mCall (lim 1 m_is_name) (mCons (mOp dAdd (mSl (mVar 3) mNoPart (mPart (mC (.int 7)))) (mC (.str ("I" : Str)))) mNil)) (mCons (mCall (lim 1 m_is_name) (mCons (mC (.str ("" : Str))) mNil)) mNil)))))) (mList (mLst (mCons (mC (.bool true)) (mCons (mOp dLt (mVar 1) (mC (.int 8))) (mCons (mC (.bool false)) (mCons (mC (.bool false)) mNil))))))) ρ = some false := by
      refine test_of ?_
      have sh := shaped_bools [true, decide (many < 8), false, false]
      rw [op_of l1 l2]
      exact (dNe_of sh sh).trans (by simp [PyData.eqv, PyData.eqvAll])
    rw [if_f t]
    rfl
  rw [seq_nx s3]
  -- a row
  have s4 : sAsg (mOp dMul (mTup (mCons (mVar 2) mNil)) (mVar 1)) (gSet 4) [some (.val L), some (.val (.int many)), some (.val (.int w)), some (.val (.str (nm many))), none, none, none] =
      some (.nx [some (.val L), some (.val (.int many)), some (.val (.int w)), some (.val (.str (nm many))), some (.val (.tuple (row w n))), none, none]) := by
    have e : mOp dMul (mTup (mCons (mVar 2) mNil)) (mVar 1) [some (.val L), some (.val (.int many)), some (.val (.int w)), some (.val (.str (nm many))), none, none, none] = some (.tuple (row w n)) := by
      rw [op_of (show mTup (mCons (mVar 2) mNil) _ = some (.tuple [.int w]) from rfl) (show mVar 1 _ = some (.int many) from rfl)]
      show (if [PyData.int w] ≠ [] ∧ [PyData.int w].length ≤ 1000 ∧ -1000 ≤ many ∧ many ≤ 1000 then some (PyData.tuple (List.replicate many.toNat [PyData.int w]).flatten) else none) = _
      rw [if_pos ⟨by simp, by simp, by omega, by omega⟩, flat1]
      have : many.toNat = n := by omega
      rw [this]
      rfl
    rw [asg_set e]
    rfl
  rw [seq_nx s4]
  generalize hρ : [some (Sl.val L), some (Sl.val (.int many)), some (Sl.val (.int w)), some (Sl.val (.str (nm many))), some (Sl.val (.tuple (row w n))), none, none] = ρ
  have v0 : mVar 0 ρ = some L := by rw [← hρ]; rfl
  have v1 : mVar 1 ρ = some (.int many) := by rw [← hρ]; rfl
  have v4 : mVar 4 ρ = some (.tuple (row w n)) := by rw [← hρ]; rfl
  -- records asked
  have rc : ∀ ds : List D, ds.length ≤ 100 → R.m_is_record [.tuple ds] = some (.bool (isRec (.tuple ds))) := fun ds h => R.rec_eq _ (show ds.length ≤ cap from Nat.le_trans h (by decide))
  have cutadd : ∀ (x : D), isWord x = false → ∀ (m : En → Option D), m ρ = some x → mTru (mCall (lim 1 m_is_record) (mCons (mOp dAdd (mSl (mVar 4) mNoPart (mPart (mUn dNeg (mC (.int 1))))) (mTup (mCons m mNil))) mNil)) ρ = some false := fun x hx m hm => by
    have g1 : mSl (mVar 4) mNoPart (mPart (mUn dNeg (mC (.int 1)))) ρ = some (.tuple (cutD (row w n) none (some (-1)))) := by
      unfold mSl
      rw [v4]
      rfl
    have cl := cut_len (row w n) none (some (-1))
    rw [rlen] at cl
    have g2 : mOp dAdd (mSl (mVar 4) mNoPart (mPart (mUn dNeg (mC (.int 1))))) (mTup (mCons m mNil)) ρ = some (.tuple (cutD (row w n) none (some (-1)) ++ [x])) := by
      rw [op_of g1 (tup_of (cons_of hm nil_of) (by show 1 ≤ cap; decide))]
      show (if (cutD (row w n) none (some (-1))).length + 1 ≤ cap then _ else _) = _
      rw [if_pos (Nat.le_trans (show _ ≤ 9 by omega) (by decide))]
    have : isRec (.tuple (cutD (row w n) none (some (-1)) ++ [x])) = false := by
      show (_ && (cutD (row w n) none (some (-1)) ++ [x]).all isWord) = false
      rw [List.all_append, List.all_cons, hx, Bool.false_and, Bool.and_false, Bool.and_false]
    have g3 := (arg1 (f := m_is_record) g2).trans (show m_is_record [.tuple (cutD (row w n) none (some (-1)) ++ [x])] = some (.bool false) by rw [k_rec, rc _ (by rw [List.length_append, List.length_singleton]; omega), this])
    rw [tru_of g3]
    rfl
  have r4 : mCall (lim 1 m_is_record) (mCons (mVar 4) mNil) ρ = some (.bool true) := by
    rw [arg1 v4, k_rec, rc _ (by rw [rlen]; omega), rrec]
  have r5 : mCall (lim 1 m_is_record) (mCons (mOp dAdd (mVar 4) (mTup (mCons (mC (.int 0)) mNil))) mNil) ρ = some (.bool (decide (many < 8))) := by
    have g2 : mOp dAdd (mVar 4) (mTup (mCons (mC (.int 0)) mNil)) ρ = some (.tuple (row w n ++ [.int 0])) := by
      rw [op_of v4 (show mTup (mCons (mC (.int 0)) mNil) ρ = some (.tuple [.int 0]) from rfl)]
      show (if (row w n).length + 1 ≤ cap then _ else _) = _
      rw [if_pos (by rw [rlen]; exact Nat.le_trans (show n + 1 ≤ 9 by omega) (by decide))]
    rw [arg1 g2, k_rec, rc _ (by rw [List.length_append, List.length_singleton, rlen]; omega)]
    show some (PyData.bool ((decide ((1 : Int) ≤ (row w n ++ [PyData.int 0]).length) && decide (((row w n ++ [PyData.int 0]).length : Int) ≤ 8)) && (row w n ++ [PyData.int 0]).all isWord)) = _
    rw [List.all_append, rwords, List.length_append, List.length_singleton, rlen, decide_eq_true (show (1 : Int) ≤ ((n + 1 : Nat) : Int) by omega)]
    have : decide (((n + 1 : Nat) : Int) ≤ 8) = decide (many < 8) := by
      by_cases c : many < 8
      · rw [decide_eq_true c, decide_eq_true (by omega)]
      · rw [decide_eq_false c, decide_eq_false (by omega)]
    rw [this]
    cases decide (many < 8) <;> rfl
  have e8 : mOp dLt (mVar 1) (mC (.int 8)) ρ = some (.bool (decide (many < 8))) := by
    rw [op_of v1 (show mC (.int 8) ρ = some (.int 8) from rfl)]
    rfl
  rw [seq_nx (ρ' := ρ) (by
    rw [if_f]
    · rfl
    rw [or_f (by rw [is_t (a := .none) r4]; rfl), or_f (by rw [ne_bools r5 e8, beq_self_eq_true]; rfl)]
    exact cutadd (.int 10000) rfl (mC (.int 10000)) rfl)]
  rw [seq_nx (ρ' := ρ) (by
    rw [if_f]
    · rfl
    have l4 : mList (mCallL dLstOf (mCons (mVar 4) mNil)) ρ = some (.list (row w n)) := by
      refine list_of ?_
      unfold mCallL
      rw [cons_of v4 nil_of]
      rfl
    have g1 : mCall (lim 1 m_is_record) (mCons (mList (mCallL dLstOf (mCons (mVar 4) mNil))) mNil) ρ = some (.bool false) := by
      rw [arg1 l4]
      rfl
    rw [or_f (by rw [is_t (a := .none) g1]; rfl), or_f (cutadd (.bool true) rfl (mC (.bool true)) rfl)]
    rfl)]
  -- rows
  have rok2 : okLen (.tuple (row w n)) := rok
  have mulrow : ∀ (k : Int) (m : En → Option D), 0 ≤ k → k ≤ 31 → m ρ = some (.int k) → mOp dMul (mTup (mCons (mVar 4) mNil)) m ρ = some (.tuple (List.replicate k.toNat (.tuple (row w n)))) := fun k m k0 k1 hm => by
    rw [op_of (tup_of (cons_of v4 nil_of) (by show 1 ≤ cap; decide)) hm]
    show (if [PyData.tuple (row w n)] ≠ [] ∧ [PyData.tuple (row w n)].length ≤ 1000 ∧ -1000 ≤ k ∧ k ≤ 1000 then some (PyData.tuple (List.replicate k.toNat [PyData.tuple (row w n)]).flatten) else none) = _
    rw [if_pos ⟨by simp, by simp, by omega, by omega⟩, flat1]
  have s7 : sAsg (mOp dMul (mTup (mCons (mVar 4) mNil)) (mCall (lim 3 m__law_pick) (mCons (mVar 0) (mCons (mC (.int 62)) (mCons (mC (.int 31)) mNil))))) (gSet 5) ρ = some (.nx (ρ.set 5 (some (.val (.tuple (List.replicate m2.toNat (.tuple (row w n)))))))) := by
    refine asg_set (mulrow m2 _ a2 (by omega) ?_)
    rw [call_of (cons_of v0 (cons_of (show mC (.int 62) ρ = some (.int 62) from rfl) (cons_of (show mC (.int 31) ρ = some (.int 31) from rfl) nil_of)))]
    exact p2
  rw [seq_nx s7]
  have allok : ∀ (k : Nat), ∀ x ∈ List.replicate k (PyData.tuple (row w n)), okLen x := fun k x hx => by
    cases List.eq_of_mem_replicate hx
    exact rok2
  have recsrow : ∀ (k : Nat), k ≤ 31 → R.m_are_records [.tuple (List.replicate k (.tuple (row w n)))] = some (.bool (!decide ((30 : Int) < k))) := fun k hk => by
    rw [recs_of (by rw [List.length_replicate]; exact Nat.le_trans hk (by decide)) (allok k)]
    show some (PyData.bool ((!decide ((30 : Int) < (List.replicate k (PyData.tuple (row w n))).length)) && (List.replicate k (PyData.tuple (row w n))).all isRec)) = _
    rw [List.length_replicate]
    have : (List.replicate k (PyData.tuple (row w n))).all isRec = true := by
      rw [List.all_eq_true]
      intro x hx
      cases List.eq_of_mem_replicate hx
      exact rrec
    rw [this, Bool.and_true]
  have hρ2 : ρ.set 5 (some (.val (.tuple (List.replicate m2.toNat (.tuple (row w n)))))) = [some (Sl.val L), some (Sl.val (.int many)), some (Sl.val (.int w)), some (Sl.val (.str (nm many))), some (Sl.val (.tuple (row w n))), some (.val (.tuple (List.replicate m2.toNat (.tuple (row w n))))), none] := by
    rw [← hρ]; rfl
  rw [hρ2]
  have w8 : ∀ (x : Option Sl), sIf (mOr (mTest (mOp dIsNot (mCall (lim 1 m_are_records) (mCons (mVar 5) mNil)) (mC (.bool true)))) (mOr (mTru (mCall (lim 1 m_are_records) (mCons (mList (mCallL dLstOf (mCons (mVar 5) mNil))) mNil))) (mTru (mCall (lim 1 m_are_records) (mCons (mOp dMul (mTup (mCons (mVar 4) mNil)) (mC (.int 31))) mNil)))))
      (sRet (mC (.bool false))) sNext [some (Sl.val L), some (Sl.val (.int many)), some (Sl.val (.int w)), some (Sl.val (.str (nm many))), some (Sl.val (.tuple (row w n))), some (.val (.tuple (List.replicate m2.toNat (.tuple (row w n))))), x] =
      some (.nx [some (Sl.val L), some (Sl.val (.int many)), some (Sl.val (.int w)), some (Sl.val (.str (nm many))), some (Sl.val (.tuple (row w n))), some (.val (.tuple (List.replicate m2.toNat (.tuple (row w n))))), x]) := fun x => by
    generalize hρ3 : [some (Sl.val L), some (Sl.val (.int many)), some (Sl.val (.int w)), some (Sl.val (.str (nm many))), some (Sl.val (.tuple (row w n))), some (Sl.val (.tuple (List.replicate m2.toNat (.tuple (row w n))))), x] = ρ3
    have v5 : mVar 5 ρ3 = some (.tuple (List.replicate m2.toNat (.tuple (row w n)))) := by rw [← hρ3]; rfl
    have v4' : mVar 4 ρ3 = some (.tuple (row w n)) := by rw [← hρ3]; rfl
    have g1 : mCall (lim 1 m_are_records) (mCons (mVar 5) mNil) ρ3 = some (.bool true) := by
      rw [arg1 v5, k_recs, recsrow _ (by omega), decide_eq_false (by omega)]
      rfl
    have l5 : mList (mCallL dLstOf (mCons (mVar 5) mNil)) ρ3 = some (.list (List.replicate m2.toNat (.tuple (row w n)))) := by
      refine list_of ?_
      unfold mCallL
      rw [cons_of v5 nil_of]
      rfl
    have g2 : mCall (lim 1 m_are_records) (mCons (mList (mCallL dLstOf (mCons (mVar 5) mNil))) mNil) ρ3 = some (.bool false) := by
      rw [arg1 l5]
      rfl
    have g3 : mCall (lim 1 m_are_records) (mCons (mOp dMul (mTup (mCons (mVar 4) mNil)) (mC (.int 31))) mNil) ρ3 = some (.bool false) := by
      have g4 : mOp dMul (mTup (mCons (mVar 4) mNil)) (mC (.int 31)) ρ3 = some (.tuple (List.replicate 31 (.tuple (row w n)))) := by
        rw [op_of (tup_of (cons_of v4' nil_of) (by show 1 ≤ cap; decide)) (show mC (.int 31) ρ3 = some (.int 31) from rfl)]
        show (if [PyData.tuple (row w n)] ≠ [] ∧ [PyData.tuple (row w n)].length ≤ 1000 ∧ -1000 ≤ (31 : Int) ∧ (31 : Int) ≤ 1000 then some (PyData.tuple (List.replicate 31 [PyData.tuple (row w n)]).flatten) else none) = _
        rw [if_pos ⟨by simp, by simp, by omega, by omega⟩, flat1]
      rw [arg1 g4, k_recs, recsrow 31 (by omega)]
      rfl
    rw [if_f]
    · rfl
    rw [or_f (by rw [is_t (a := .none) g1]; rfl), or_f (by rw [tru_of g2]; rfl), tru_of g3]
    rfl
  rw [seq_nx (w8 none)]
  -- odd things
  have hodd : mIter (mCall (lim 2 m__law_odd) (mCons (mVar 0) (mCons (mC (.int 63)) mNil))) [some (Sl.val L), some (Sl.val (.int many)), some (Sl.val (.int w)), some (Sl.val (.str (nm many))), some (Sl.val (.tuple (row w n))), some (.val (.tuple (List.replicate m2.toNat (.tuple (row w n))))), none] = some (odds q) := by
    refine iter_lst ?_
    rw [call_of (cons_of (show mVar 0 _ = some L from rfl) (cons_of (show mC (.int 63) _ = some (.int 63) from rfl) nil_of)), lim2]
    exact odd_eq p3
  obtain ⟨ρe, le, x, hx⟩ := loop_all (ds := odds q) (Pv := fun ρ => ∃ x, ρ = [some (Sl.val L), some (Sl.val (.int many)), some (Sl.val (.int w)), some (Sl.val (.str (nm many))), some (Sl.val (.tuple (row w n))), some (.val (.tuple (List.replicate m2.toNat (.tuple (row w n))))), x]) (g := gSet 6)
    (b := (sSeq (sIf (mOr (mTest (mOp dIsNot (mCall (lim 1 m_is_name) (mCons (mVar 6) mNil)) (mC (.bool false)))) (mTest (mOp dNe (mCall (lim 1 m_are_records) (mCons (mTup (mCons (mVar 4) (mCons (mVar 6) mNil))) mNil)) (mOp dEq (mVar 6) (mTup (mCons (mC (.int 1)) mNil))))))
        (sRet (mC (.bool false))) sNext)
      (sIf (mOr (mTest (mOp dIsNot (mCall (lim 1 m_is_record) (mCons (mTup (mCons (mVar 2) (mCons (mVar 6) mNil))) mNil)) (mC (.bool false)))) (mTest (mOp dNe (mCall (lim 1 m_is_record) (mCons (mVar 6) mNil)) (mOp dEq (mVar 6) (mTup (mCons (mC (.int 1)) mNil))))))
        (sRet (mC (.bool false))) sNext))) ⟨none, rfl⟩ (fun d hd ρ4 ⟨x, hx⟩ => by
      subst hx
      obtain ⟨o1, o2, o3, o4, o5, o6⟩ := odds_ok a3 d hd
      refine ⟨_, [some (Sl.val L), some (Sl.val (.int many)), some (Sl.val (.int w)), some (Sl.val (.str (nm many))), some (Sl.val (.tuple (row w n))), some (.val (.tuple (List.replicate m2.toNat (.tuple (row w n))))), some (.val d)], rfl, ?_, ⟨_, rfl⟩⟩
      show _ = some (Fl.nx [some (Sl.val L), some (Sl.val (.int many)), some (Sl.val (.int w)), some (Sl.val (.str (nm many))), some (Sl.val (.tuple (row w n))), some (.val (.tuple (List.replicate m2.toNat (.tuple (row w n))))), some (.val d)])
      show sSeq _ _ [some (Sl.val L), some (Sl.val (.int many)), some (Sl.val (.int w)), some (Sl.val (.str (nm many))), some (Sl.val (.tuple (row w n))), some (.val (.tuple (List.replicate m2.toNat (.tuple (row w n))))), some (.val d)] = _
      generalize hρ3 : [some (Sl.val L), some (Sl.val (.int many)), some (Sl.val (.int w)), some (Sl.val (.str (nm many))), some (Sl.val (.tuple (row w n))), some (Sl.val (.tuple (List.replicate m2.toNat (.tuple (row w n))))), some (Sl.val d)] = ρ3
      have u6 : mVar 6 ρ3 = some d := by rw [← hρ3]; rfl
      have u4 : mVar 4 ρ3 = some (.tuple (row w n)) := by rw [← hρ3]; rfl
      have u2 : mVar 2 ρ3 = some (.int w) := by rw [← hρ3]; rfl
      have q1 : mCall (lim 1 m_is_name) (mCons (mVar 6) mNil) ρ3 = some (.bool false) := by
        rw [arg1 u6, k_name, R.name_eq _ o3, o1]
      have q2 : mOp dEq (mVar 6) (mTup (mCons (mC (.int 1)) mNil)) ρ3 = some (.bool (PyData.eqv d (.tuple [.int 1]))) := by
        rw [op_of u6 (show mTup (mCons (mC (.int 1)) mNil) ρ3 = some (.tuple [.int 1]) from rfl), dEq_of o4 (by decide +kernel)]
      have q3 : mCall (lim 1 m_are_records) (mCons (mTup (mCons (mVar 4) (mCons (mVar 6) mNil))) mNil) ρ3 = some (.bool (PyData.eqv d (.tuple [.int 1]))) := by
        rw [arg1 (tup_of (cons_of u4 (cons_of u6 nil_of)) (by show 2 ≤ cap; decide)), k_recs, recs_of (by show 2 ≤ cap; decide) (fun y hy => by
          simp only [List.mem_cons, List.mem_nil_iff, or_false] at hy
          rcases hy with rfl | rfl
          · exact rok2
          · exact o3)]
        show some (PyData.bool (true && ([PyData.tuple (row w n), d].all isRec))) = _
        rw [List.all_cons, List.all_cons, rrec, o5]
        simp
      have q4 : mCall (lim 1 m_is_record) (mCons (mVar 6) mNil) ρ3 = some (.bool (PyData.eqv d (.tuple [.int 1]))) := by
        rw [arg1 u6, k_rec, R.rec_eq _ o3, o5]
      have q5 : mCall (lim 1 m_is_record) (mCons (mTup (mCons (mVar 2) (mCons (mVar 6) mNil))) mNil) ρ3 = some (.bool false) := by
        rw [arg1 (tup_of (cons_of u2 (cons_of u6 nil_of)) (by show 2 ≤ cap; decide)), k_rec, rc _ (by show 2 ≤ 100; decide)]
        show some (PyData.bool (true && ([PyData.int w, d].all isWord))) = _
        rw [List.all_cons, List.all_cons, o2]
        simp
      rw [seq_nx (ρ' := ρ3) (by
        rw [if_f]
        · rfl
        rw [or_f (by rw [is_t (a := .none) q1]; rfl), ne_bools q3 q2, beq_self_eq_true]
        rfl)]
      rw [if_f]
      · rfl
      rw [or_f (by rw [is_t (a := .none) q5]; rfl), ne_bools q4 q2, beq_self_eq_true]
      rfl)
  rw [seq_nx (ρ' := ρe) (by
    unfold sFor
    rw [hodd]
    exact le)]
  subst hx
  refine ret_of ?_
  generalize hρ3 : [some (Sl.val L), some (Sl.val (.int many)), some (Sl.val (.int w)), some (Sl.val (.str (nm many))), some (Sl.val (.tuple (row w n))), some (Sl.val (.tuple (List.replicate m2.toNat (.tuple (row w n))))), x] = ρ3
  have u4 : mVar 4 ρ3 = some (.tuple (row w n)) := by rw [← hρ3]; rfl
  have y1 : mOp dIs (mCall (lim 1 m_are_records) (mCons (mTup mNil) mNil)) (mC (.bool true)) ρ3 = some (.bool true) := rfl
  have y2 : mOp dIs (mCall (lim 1 m_are_records) (mCons (mTup (mCons (mVar 4) (mCons (mTup mNil) mNil))) mNil)) (mC (.bool false)) ρ3 = some (.bool true) := by
    have g : mCall (lim 1 m_are_records) (mCons (mTup (mCons (mVar 4) (mCons (mTup mNil) mNil))) mNil) ρ3 = some (.bool false) := by
      rw [arg1 (tup_of (cons_of u4 (cons_of (show mTup mNil ρ3 = some (.tuple []) from rfl) nil_of)) (by show 2 ≤ cap; decide)), k_recs, recs_of (by show 2 ≤ cap; decide) (fun y hy => by
        simp only [List.mem_cons, List.mem_nil_iff, or_false] at hy
        rcases hy with rfl | rfl
        · exact rok2
        · exact Nat.zero_le _)]
      show some (PyData.bool (true && ([PyData.tuple (row w n), .tuple []].all isRec))) = _
      rw [List.all_cons, List.all_cons, rrec]
      rfl
    rw [op_of g (show mC (.bool false) ρ3 = some (.bool false) from rfl)]
    rfl
  rw [andV_t y1, andV_t y2]
  rfl
end DD

set_option Elab.async false
set_option linter.all false
set_option maxRecDepth 100000
set_option maxHeartbeats 4000000
namespace DD
open PySem PySem.Spec PyProof.Rows L2
theorem sp_law {K : PySem.W.Frag} {H : Hp} {a : Addr} {ns : List Int} {E : XK} (hl : ns.length ≤ 63) (hS : SqL K H a (ns.map V.int)) : spM K 1 m_law [.ref a] H (fun v _ => v = .bl true) E := by
  have e : H = ov H (fun _ => none) := by
    funext b
    rfl
  exact ⟨[.list (ns.map .int)], .bool true, H, fun _ => none, .cons (.lst hS (dpa_ints ns)) .nil, rfl, law_true ns hl, e, (fun _ _ h => nomatch h), fun v H' _ _ g => dp_bool g⟩
theorem all_mk {w : World} {K : PySem.W.Frag} {h : Heap} {mg : Str → Option Value} {fa : Addr} (X : K.In h) (G : h.Ns mainGlobals mg) (hfa : mg "law" = some (.ref fa))
    {f1 : Addr} {od1 an1 : Option Addr} {sl1 : Array (Option Value)} {oc1 kV1 dc1 pm1 cd1 ct1 : Value}
    (a1 : PySem.W.nsIn K mainGlobals "is_whole" = some (some (.ref f1))) (l1 : K.lookup f1 = some ⟨oc1, od1, .func (PySem.W.fnOf "is_whole" "is_whole" (defArgs s_is_whole) (defBody s_is_whole) (defScope s_is_whole) .none kV1 dc1 pm1 an1 cd1 ct1), sl1⟩) (c1 : PySem.W.codeIn K cd1 "is_whole" = true) (k1 : PySem.W.keepIn K (.ref f1) = true)
    {f2 : Addr} {od2 an2 : Option Addr} {sl2 : Array (Option Value)} {oc2 kV2 dc2 pm2 cd2 ct2 : Value}
    (a2 : PySem.W.nsIn K mainGlobals "is_word" = some (some (.ref f2))) (l2 : K.lookup f2 = some ⟨oc2, od2, .func (PySem.W.fnOf "is_word" "is_word" (defArgs s_is_word) (defBody s_is_word) (defScope s_is_word) .none kV2 dc2 pm2 an2 cd2 ct2), sl2⟩) (c2 : PySem.W.codeIn K cd2 "is_word" = true) (k2 : PySem.W.keepIn K (.ref f2) = true)
    {f3 : Addr} {od3 an3 : Option Addr} {sl3 : Array (Option Value)} {oc3 kV3 dc3 pm3 cd3 ct3 : Value}
    (a3 : PySem.W.nsIn K mainGlobals "is_name" = some (some (.ref f3))) (l3 : K.lookup f3 = some ⟨oc3, od3, .func (PySem.W.fnOf "is_name" "is_name" (defArgs s_is_name) (defBody s_is_name) (defScope s_is_name) .none kV3 dc3 pm3 an3 cd3 ct3), sl3⟩) (c3 : PySem.W.codeIn K cd3 "is_name" = true) (k3 : PySem.W.keepIn K (.ref f3) = true)
    {f4 : Addr} {od4 an4 : Option Addr} {sl4 : Array (Option Value)} {oc4 kV4 dc4 pm4 cd4 ct4 : Value}
    (a4 : PySem.W.nsIn K mainGlobals "is_record" = some (some (.ref f4))) (l4 : K.lookup f4 = some ⟨oc4, od4, .func (PySem.W.fnOf "is_record" "is_record" (defArgs s_is_record) (defBody s_is_record) (defScope s_is_record) .none kV4 dc4 pm4 an4 cd4 ct4), sl4⟩) (c4 : PySem.W.codeIn K cd4 "is_record" = true) (k4 : PySem.W.keepIn K (.ref f4) = true)
    {f5 : Addr} {od5 an5 : Option Addr} {sl5 : Array (Option Value)} {oc5 kV5 dc5 pm5 cd5 ct5 : Value}
    (a5 : PySem.W.nsIn K mainGlobals "are_records" = some (some (.ref f5))) (l5 : K.lookup f5 = some ⟨oc5, od5, .func (PySem.W.fnOf "are_records" "are_records" (defArgs s_are_records) (defBody s_are_records) (defScope s_are_records) .none kV5 dc5 pm5 an5 cd5 ct5), sl5⟩) (c5 : PySem.W.codeIn K cd5 "are_records" = true) (k5 : PySem.W.keepIn K (.ref f5) = true)
    {f6 : Addr} {od6 an6 : Option Addr} {sl6 : Array (Option Value)} {oc6 kV6 dc6 pm6 cd6 ct6 : Value}
    (a6 : PySem.W.nsIn K mainGlobals "_law_pick" = some (some (.ref f6))) (l6 : K.lookup f6 = some ⟨oc6, od6, .func (PySem.W.fnOf "_law_pick" "_law_pick" (defArgs s__law_pick) (defBody s__law_pick) (defScope s__law_pick) .none kV6 dc6 pm6 an6 cd6 ct6), sl6⟩) (c6 : PySem.W.codeIn K cd6 "_law_pick" = true) (k6 : PySem.W.keepIn K (.ref f6) = true)
    {f7 : Addr} {od7 an7 : Option Addr} {sl7 : Array (Option Value)} {oc7 kV7 dc7 pm7 cd7 ct7 : Value}
    (a7 : PySem.W.nsIn K mainGlobals "_law_odd" = some (some (.ref f7))) (l7 : K.lookup f7 = some ⟨oc7, od7, .func (PySem.W.fnOf "_law_odd" "_law_odd" (defArgs s__law_odd) (defBody s__law_odd) (defScope s__law_odd) .none kV7 dc7 pm7 an7 cd7 ct7), sl7⟩) (c7 : PySem.W.codeIn K cd7 "_law_odd" = true) (k7 : PySem.W.keepIn K (.ref f7) = true)
    {f8 : Addr} {od8 an8 : Option Addr} {sl8 : Array (Option Value)} {oc8 kV8 dc8 pm8 cd8 ct8 : Value}
    (a8 : PySem.W.nsIn K mainGlobals "law" = some (some (.ref f8))) (l8 : K.lookup f8 = some ⟨oc8, od8, .func (PySem.W.fnOf "law" "law" (defArgs s_law) (defBody s_law) (defScope s_law) .none kV8 dc8 pm8 an8 cd8 ct8), sl8⟩) (c8 : PySem.W.codeIn K cd8 "law" = true) (k8 : PySem.W.keepIn K (.ref f8) = true)
    {t9 : Tok} (c_GREATEST_WORD : PySem.W.nsIn K mainGlobals "GREATEST_WORD" = some (some (.int 9999 t9)))
    {t10 : Tok} (c_MOST_LETTERS : PySem.W.nsIn K mainGlobals "MOST_LETTERS" = some (some (.int 8 t10)))
    {t11 : Tok} (c_LETTERS : PySem.W.nsIn K mainGlobals "LETTERS" = some (some (.str "abcdefghijklmnopqrstuvwxyz" t11)))
    {t12 : Tok} (c_MOST_WORDS : PySem.W.nsIn K mainGlobals "MOST_WORDS" = some (some (.int 8 t12)))
    {t13 : Tok} (c_MOST_RECORDS : PySem.W.nsIn K mainGlobals "MOST_RECORDS" = some (some (.int 30 t13)))
    (z_isinstance : PySem.W.nsIn K mainGlobals "isinstance" = some none)
    (z_int : PySem.W.nsIn K mainGlobals "int" = some none)
    (z_bool : PySem.W.nsIn K mainGlobals "bool" = some none)
    (z_str : PySem.W.nsIn K mainGlobals "str" = some none)
    (z_len : PySem.W.nsIn K mainGlobals "len" = some none)
    (z_all : PySem.W.nsIn K mainGlobals "all" = some none)
    (z_tuple : PySem.W.nsIn K mainGlobals "tuple" = some none)
    (z_max : PySem.W.nsIn K mainGlobals "max" = some none)
    (z_list : PySem.W.nsIn K mainGlobals "list" = some none) :
    ∃ fd : FuncData, (∀ (s : Shared) (v : Value), BindsTo s fd ⟨[v], []⟩ [("_law_script", v)]) ∧ ∀ base : Heap, K.In base → base.Ns mainGlobals mg → FnOk PySem.Challenge.rw_batchyard_k01_records.prog w K mg base CX0 5 fa fd ["_law_script"] (spM K 1 m_law) := by
  have e := hfa.symm.trans (PySem.W.mg_of X G a8)
  cases e
  have F1 := fun_mk (st := s_is_whole) l1 c1 k1
  have F2 := fun_mk (st := s_is_word) l2 c2 k2
  have F3 := fun_mk (st := s_is_name) l3 c3 k3
  have F4 := fun_mk (st := s_is_record) l4 c4 k4
  have F5 := fun_mk (st := s_are_records) l5 c5 k5
  have F6 := fun_mk (st := s__law_pick) l6 c6 k6
  have F7 := fun_mk (st := s__law_odd) l7 c7 k7
  have F8 := fun_mk (st := s_law) l8 c8 k8
  let T : Tx K w mg := {
    f_is_whole := f1, d_is_whole := _, F_is_whole := F1, b_is_whole := F1.binds (ps := ["thing", "low", "high"]) fun _ _ _ _ _ _ us hl => match us, hl with | [_, _, _], _ => rfl, g_is_whole := PySem.W.mg_of X G a1,
    f_is_word := f2, d_is_word := _, F_is_word := F2, b_is_word := F2.binds (ps := ["thing"]) fun _ _ _ _ _ _ us hl => match us, hl with | [_], _ => rfl, g_is_word := PySem.W.mg_of X G a2,
    f_is_name := f3, d_is_name := _, F_is_name := F3, b_is_name := F3.binds (ps := ["thing"]) fun _ _ _ _ _ _ us hl => match us, hl with | [_], _ => rfl, g_is_name := PySem.W.mg_of X G a3,
    f_is_record := f4, d_is_record := _, F_is_record := F4, b_is_record := F4.binds (ps := ["thing"]) fun _ _ _ _ _ _ us hl => match us, hl with | [_], _ => rfl, g_is_record := PySem.W.mg_of X G a4,
    f_are_records := f5, d_are_records := _, F_are_records := F5, b_are_records := F5.binds (ps := ["thing"]) fun _ _ _ _ _ _ us hl => match us, hl with | [_], _ => rfl, g_are_records := PySem.W.mg_of X G a5,
    f__law_pick := f6, d__law_pick := _, F__law_pick := F6, b__law_pick := F6.binds (ps := ["_law_script", "_law_k", "_law_many"]) fun _ _ _ _ _ _ us hl => match us, hl with | [_, _, _], _ => rfl, g__law_pick := PySem.W.mg_of X G a6,
    f__law_odd := f7, d__law_odd := _, F__law_odd := F7, b__law_odd := F7.binds (ps := ["_law_script", "_law_at"]) fun _ _ _ _ _ _ us hl => match us, hl with | [_, _], _ => rfl, g__law_odd := PySem.W.mg_of X G a7,
    f_law := fa, d_law := _, F_law := F8, b_law := F8.binds (ps := ["_law_script"]) fun _ _ _ _ _ _ us hl => match us, hl with | [_], _ => rfl, g_law := PySem.W.mg_of X G a8,
    t_GREATEST_WORD := t9, c_GREATEST_WORD := PySem.W.mg_of X G c_GREATEST_WORD,
    t_MOST_LETTERS := t10, c_MOST_LETTERS := PySem.W.mg_of X G c_MOST_LETTERS,
    t_LETTERS := t11, c_LETTERS := PySem.W.mg_of X G c_LETTERS,
    t_MOST_WORDS := t12, c_MOST_WORDS := PySem.W.mg_of X G c_MOST_WORDS,
    t_MOST_RECORDS := t13, c_MOST_RECORDS := PySem.W.mg_of X G c_MOST_RECORDS,
    n_isinstance := PySem.W.mg_none_of X G z_isinstance,
    n_int := PySem.W.mg_none_of X G z_int,
    n_bool := PySem.W.mg_none_of X G z_bool,
    n_str := PySem.W.mg_none_of X G z_str,
    n_len := PySem.W.mg_none_of X G z_len,
    n_all := PySem.W.mg_none_of X G z_all,
    n_tuple := PySem.W.mg_none_of X G z_tuple,
    n_max := PySem.W.mg_none_of X G z_max,
    n_list := PySem.W.mg_none_of X G z_list }
  exact ⟨PySem.W.fnOf "law" "law" (defArgs s_law) (defBody s_law) (defScope s_law) .none kV8 dc8 pm8 an8 cd8 ct8, fun s v => .of_eq rfl, fun base _ _ => ok_law T⟩
end DD
open PySem PySem.W PyProof.Rows
set_option maxHeartbeats 0 in
theorem PySem.Challenge.cw_batchyard_k01_records_holds : PySem.Challenge.rw_batchyard_k01_records.Holds := by
  w_on; o_law; k_head; (case hw => w_witness2)
  k_fill
  refine L2.walk_of (l := PySem.Challenge.rw_batchyard_k01_records) (n := 63) (k := 5) (x := "_law_script") (CX := fun _ => L2.CX0) (sp := fun w => DD.spM _ 1 DD.m_law) rfl (by decide) rfl ⟨rfl, by decide, by decide⟩ (fun w h Y => PySem.W.kIn_of Y) ?F (fun _ _ a ns hl _ hS => DD.sp_law hl hS) (fun _ _ _ _ _ h => h)
  case F =>
    intro w mg fa h KX G hmg
    refine' DD.all_mk KX G hmg ?a1 ?l1 ?c1 ?k1 ?a2 ?l2 ?c2 ?k2 ?a3 ?l3 ?c3 ?k3 ?a4 ?l4 ?c4 ?k4 ?a5 ?l5 ?c5 ?k5 ?a6 ?l6 ?c6 ?k6 ?a7 ?l7 ?c7 ?k7 ?a8 ?l8 ?c8 ?k8 ?c_GREATEST_WORD ?c_MOST_LETTERS ?c_LETTERS ?c_MOST_WORDS ?c_MOST_RECORDS ?z_isinstance ?z_int ?z_bool ?z_str ?z_len ?z_all ?z_tuple ?z_max ?z_list
    (case a1 => k_is); (case l1 => k_is); (case c1 => k_is); (case k1 => k_is); (case a2 => k_is); (case l2 => k_is); (case c2 => k_is); (case k2 => k_is); (case a3 => k_is); (case l3 => k_is); (case c3 => k_is); (case k3 => k_is); (case a4 => k_is); (case l4 => k_is); (case c4 => k_is); (case k4 => k_is); (case a5 => k_is); (case l5 => k_is); (case c5 => k_is); (case k5 => k_is); (case a6 => k_is); (case l6 => k_is); (case c6 => k_is); (case k6 => k_is); (case a7 => k_is); (case l7 => k_is); (case c7 => k_is); (case k7 => k_is); (case a8 => k_is); (case l8 => k_is); (case c8 => k_is); (case k8 => k_is); (case c_GREATEST_WORD => k_is); (case c_MOST_LETTERS => k_is); (case c_LETTERS => k_is); (case c_MOST_WORDS => k_is); (case c_MOST_RECORDS => k_is); (case z_isinstance => k_is); (case z_int => k_is); (case z_bool => k_is); (case z_str => k_is); (case z_len => k_is); (case z_all => k_is); (case z_tuple => k_is); (case z_max => k_is); (case z_list => k_is)
