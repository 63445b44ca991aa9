import PyProof.Rows.All
import Wide.All
import OpenK.AllK
import Wide.FinOn
import HandS.ForMost
import HandS.IsInst
import HandS.Walk
import HandS.Wide
import HandS.TupMul
import HandS.TupAny
import HandS.TupLe
import HandS.Style
import HandS.Star
import HandS.Zip
import HandS.Steps
import HandS.Lambda
import HandS.Deep
import KE.KUnpackStar
import HandS.TryOnly
import KE.GoesEnum
import HandS.SetFor
import HandS.Strs
import HandS.HeadHook3
import HandS.ExcOwn
import HandS.WordsExc
import HandS.ExcIs
import HandS.RaiseMore
import HandS.Replace
import HandS.EndOwn
import KE.KNestM
import HandS.HotCalls
import HandS.CallLocal
import HandS.CallSlots
import HandS.Defaults
import Flt.Len
import PySem.Challenge.RW_batchyard_k06_minds_answered
set_option Elab.async false
set_option linter.all false
set_option maxRecDepth 100000
set_option maxHeartbeats 2000000
/-! what defs do to data: readings over a heap with lists of one's own laid over it -/
namespace DD
open PySem PySem.Spec PyProof.Rows L2

abbrev D := PyData
/-- the tables of code objects that grow as lambdas are made, each with the name that its code objects bear -/
class TabQ where
  tabs : List (Addr × Str)
/-- where the caught exception lies, and the number of its class -/
class ExQ where
  ea : Addr
  ec : Nat
variable [TabQ]
/-- all but tables of code objects stays -/
def Same (H H' : Hp) : Prop := ∀ b o, H b = some o → (∀ ps, o ≠ .tbl ps) → H' b = some o
theorem Same.refl (H : Hp) : Same H H := fun _ _ h _ => h
theorem Same.trans {H H1 H2 : Hp} (a : Same H H1) (b : Same H1 H2) : Same H H2 := fun c o h n => b c o (a c o h n) n
theorem Same.of {H H' : Hp} (e : ∀ b o, H b = some o → H' b = some o) : Same H H' := fun b o h _ => e b o h
theorem Same.seq {K : PySem.W.Frag} {H H' : Hp} {a : Addr} {xs : List V} (e : Same H H') (h : SqL K H a xs) : SqL K H' a xs := by
  rcases h with (h | ⟨o, h⟩) | h
  · exact .inl (.inl (e _ _ h (fun _ => HO.noConfusion)))
  · exact .inl (.inr ⟨o, e _ _ h (fun _ => HO.noConfusion)⟩)
  · exact .inr h
/-- lists of one's own -/
abbrev Ov := Addr → Option (List V)
def ov (H : Hp) (T : Ov) : Hp := fun a => match T a with
  | some xs => some (.lst xs)
  | none => H a
structure Dis (H : Hp) (T : Ov) : Prop where
  no : ∀ a xs, T a = some xs → H a = none
  tab : LamX.Tabs TabQ.tabs H
instance {H : Hp} {T : Ov} : CoeFun (Dis H T) (fun _ => ∀ a xs, T a = some xs → H a = none) := ⟨Dis.no⟩
def Ext (T0 T : Ov) : Prop := ∀ a xs, T0 a = some xs → T a = some xs
def put (T : Ov) (p : Addr) (xs : List V) : Ov := fun a => if a = p then some xs else T a
def cut (T : Ov) (p : Addr) : Ov := fun a => if a = p then none else T a

theorem ov_own {H : Hp} {T : Ov} {a : Addr} {xs : List V} (h : T a = some xs) : ov H T a = some (.lst xs) := by
  unfold ov; rw [h]
theorem ov_none {H : Hp} {T : Ov} {a : Addr} (h : T a = none) : ov H T a = H a := by
  unfold ov; rw [h]
theorem ov_free {H : Hp} {T : Ov} {a : Addr} (h : ov H T a = none) : T a = none ∧ H a = none := by
  cases e : T a with
  | none => rw [ov_none e] at h; exact ⟨rfl, h⟩
  | some xs => rw [ov_own e] at h; cases h
/-- all that H knows stays under T -/
theorem raw_ov {H : Hp} {T : Ov} (d : Dis H T) : ∀ a o, H a = some o → ov H T a = some o := fun a o h => by
  cases e : T a with
  | none => rw [ov_none e]; exact h
  | some xs => have := d a xs e; rw [h] at this; cases this
theorem same_ov {H : Hp} {T : Ov} (d : Dis H T) : Same H (ov H T) := .of (raw_ov d)
theorem upd_ov {H : Hp} {T : Ov} {p : Addr} {o : HO} (h : T p = none) : upd (ov H T) p o = ov (upd H p o) T := by
  funext a
  by_cases e : a = p
  · subst e; rw [upd_same, ov_none h, upd_same]
  · rw [upd_ne e]
    cases q : T a with
    | none => rw [ov_none q, ov_none q, upd_ne e]
    | some xs => rw [ov_own q, ov_own q]
theorem upd_put {H : Hp} {T : Ov} {p : Addr} {xs : List V} : upd (ov H T) p (.lst xs) = ov H (put T p xs) := by
  funext a
  by_cases e : a = p
  · subst e
    have : put T a xs a = some xs := by unfold put; rw [if_pos rfl]
    rw [upd_same, ov_own this]
  · have : put T p xs a = T a := by unfold put; rw [if_neg e]
    rw [upd_ne e]
    unfold ov
    rw [this]
theorem put_same {T : Ov} {p : Addr} {xs : List V} : put T p xs p = some xs := by unfold put; rw [if_pos rfl]
theorem put_ne {T : Ov} {p a : Addr} {xs : List V} (h : a ≠ p) : put T p xs a = T a := by unfold put; rw [if_neg h]
theorem raw_new {H : Hp} {p : Addr} {o : HO} (h : H p = none) : ∀ b x, H b = some x → upd H p o b = some x := fun b x e => by
  rw [upd_ne (ne_of_none e h)]; exact e
theorem same_new {H : Hp} {p : Addr} {o : HO} (h : H p = none) : Same H (upd H p o) := .of (raw_new h)
theorem dis_upd {H : Hp} {T : Ov} {p : Addr} {o : HO} (d : Dis H T) (h : T p = none) (hn : H p = none) : Dis (upd H p o) T := ⟨fun a xs e => by
  have : a ≠ p := fun z => by rw [z, h] at e; cases e
  rw [upd_ne this]; exact d a xs e, d.tab.ext (raw_new hn)⟩
theorem dis_put {H : Hp} {T : Ov} {p : Addr} {xs : List V} (d : Dis H T) (h : H p = none) : Dis H (put T p xs) := ⟨fun a ys e => by
  by_cases q : a = p
  · rw [q]; exact h
  · rw [put_ne q] at e; exact d a ys e, d.tab⟩
theorem dis_less {H : Hp} {T T' : Ov} (d : Dis H T) (h : ∀ a xs, T' a = some xs → ∃ ys, T a = some ys) : Dis H T' := ⟨fun a xs e => let ⟨ys, q⟩ := h a xs e; d a ys q, d.tab⟩
/-- a list of one's own becomes one that is known -/
theorem ov_freeze {H : Hp} {T : Ov} {p : Addr} {xs : List V} (h : T p = some xs) : ov H T = ov (upd H p (.lst xs)) (cut T p) := by
  funext a
  by_cases e : a = p
  · subst e
    have : cut T a a = none := by unfold cut; rw [if_pos rfl]
    rw [ov_own h, ov_none this, upd_same]
  · have : cut T p a = T a := by unfold cut; rw [if_neg e]
    unfold ov
    rw [this]
    cases q : T a with
    | none => exact (upd_ne e).symm
    | some ys => rfl

/-! ### data -/
theorem Same.sqt {K : PySem.W.Frag} {H H' : Hp} {a : Addr} {xs : List V} (e : Same H H') (h : SqT K H a xs) : SqT K H' a xs := by
  rcases h with (h | ⟨o, h⟩) | h
  · exact .inl (.inl (e _ _ h (fun _ => HO.noConfusion)))
  · exact .inl (.inr ⟨o, e _ _ h (fun _ => HO.noConfusion)⟩)
  · exact .inr h
mutual
theorem dp_mono {K : PySem.W.Frag} {H H' : Hp} (e : Same H H') : ∀ {v : V} {d : D}, Dp K H v d → Dp K H' v d
  | _, _, .non => .non
  | _, _, .bl b => .bl b
  | _, _, .int i => .int i
  | _, _, .str x => .str x
  | _, _, .lst h t => .lst (e.seq h) (dpa_mono e t)
  | _, _, .tup h t => .tup (Same.sqt e h) (dpa_mono e t)
theorem dpa_mono {K : PySem.W.Frag} {H H' : Hp} (e : Same H H') : ∀ {vs : List V} {ds : List D}, DpAll K H vs ds → DpAll K H' vs ds
  | _, _, .nil => .nil
  | _, _, .cons h t => .cons (dp_mono e h) (dpa_mono e t)
end
theorem dpa_len {K : PySem.W.Frag} {H : Hp} : ∀ {vs : List V} {ds : List D}, DpAll K H vs ds → vs.length = ds.length
  | _, _, .nil => rfl
  | _, _, .cons _ t => by rw [List.length_cons, List.length_cons, dpa_len t]
theorem dpa_get {K : PySem.W.Frag} {H : Hp} : ∀ {vs : List V} {ds : List D}, DpAll K H vs ds → ∀ {i : Nat} {d : D}, ds[i]? = some d → ∃ v, vs[i]? = some v ∧ Dp K H v d
  | _, _, .nil, i, d, h => by simp at h
  | _, _, .cons h t, 0, d, e => by
    simp at e; subst e; exact ⟨_, rfl, h⟩
  | _, _, .cons h t, i + 1, d, e => by
    obtain ⟨v, q, r⟩ := dpa_get t (i := i) (by simpa using e)
    exact ⟨v, by simpa using q, r⟩
theorem dpa_append {K : PySem.W.Frag} {H : Hp} : ∀ {vs ws : List V} {ds es : List D}, DpAll K H vs ds → DpAll K H ws es → DpAll K H (vs ++ ws) (ds ++ es)
  | _, _, _, _, .nil, s => s
  | _, _, _, _, .cons h t, s => .cons h (dpa_append t s)
theorem dpa_take {K : PySem.W.Frag} {H : Hp} : ∀ {vs : List V} {ds : List D} (n : Nat), DpAll K H vs ds → DpAll K H (vs.take n) (ds.take n)
  | _, _, 0, _ => .nil
  | _, _, _ + 1, .nil => .nil
  | _, _, n + 1, .cons h t => .cons h (dpa_take n t)
theorem dpa_drop {K : PySem.W.Frag} {H : Hp} : ∀ {vs : List V} {ds : List D} (n : Nat), DpAll K H vs ds → DpAll K H (vs.drop n) (ds.drop n)
  | _, _, 0, h => h
  | _, _, _ + 1, .nil => .nil
  | _, _, n + 1, .cons _ t => dpa_drop n t
theorem dpa_rep {K : PySem.W.Frag} {H : Hp} {vs : List V} {ds : List D} (h : DpAll K H vs ds) : ∀ n : Nat, DpAll K H (List.replicate n vs).flatten (List.replicate n ds).flatten
  | 0 => .nil
  | n + 1 => by
    rw [List.replicate_succ, List.replicate_succ, List.flatten_cons, List.flatten_cons]
    exact dpa_append h (dpa_rep h n)
theorem dpa_ints {K : PySem.W.Frag} {H : Hp} : ∀ ns : List Int, DpAll K H (ns.map V.int) (ns.map PyData.int)
  | [] => .nil
  | n :: r => .cons (.int n) (dpa_ints r)
theorem dpa_snoc {K : PySem.W.Frag} {H : Hp} {vs : List V} {ds : List D} {v : V} {d : D} (h : DpAll K H vs ds) (g : Dp K H v d) : DpAll K H (vs ++ [v]) (ds ++ [d]) := dpa_append h (.cons g .nil)
theorem dpa_nil_iff {K : PySem.W.Frag} {H : Hp} {vs : List V} {ds : List D} (h : DpAll K H vs ds) : ds = [] ↔ vs = [] := by
  cases h with
  | nil => exact Iff.intro (fun _ => rfl) (fun _ => rfl)
  | cons _ _ => exact Iff.intro (fun z => nomatch z) (fun z => nomatch z)

/-! ### slots -/
inductive Sl where
  | val (d : D)
  | own (ds : List D)
  | exc (c : Nat)
abbrev En := List (Option Sl)

variable [ExQ]
/-- where one stands in a def: H0, T0 what the caller has -/
structure Good (K : PySem.W.Frag) (H0 : Hp) (T0 : Ov) (σ : L2.St) (ρ : En) (H : Hp) (T : Ov) : Prop where
  len : ρ.length = σ.length
  val : ∀ (i : Nat) (d : D), ρ[i]? = some (some (Sl.val d)) → ∃ v, σ[i]? = some (some v) ∧ Dp K H v d
  own : ∀ (i : Nat) (ds : List D), ρ[i]? = some (some (Sl.own ds)) → ∃ p xs, σ[i]? = some (some (.ref p)) ∧ T p = some xs ∧ T0 p = none ∧ DpAll K H xs ds
  inj : ∀ (i j : Nat) (ds es : List D) (p : Addr), ρ[i]? = some (some (Sl.own ds)) → ρ[j]? = some (some (Sl.own es)) → σ[i]? = some (some (.ref p)) → σ[j]? = some (some (.ref p)) → i = j
  dis : Dis H T
  ext : Ext T0 T
  ex : Same H0 H
  exc : ∀ (i : Nat) (c : Nat), ρ[i]? = some (some (Sl.exc c)) → σ[i]? = some (some (.ref ExQ.ea)) ∧ c = ExQ.ec
section
variable {K : PySem.W.Frag} {H0 H H' : Hp} {T0 T : Ov} {σ : L2.St} {ρ : En}
theorem Good.mono (G : Good K H0 T0 σ ρ H T) (e : Same H H') (d : Dis H' T) : Good K H0 T0 σ ρ H' T :=
  ⟨G.len, fun i x h => let ⟨v, a, b⟩ := G.val i x h; ⟨v, a, dp_mono e b⟩, fun i x h => let ⟨p, xs, a, b, c, f⟩ := G.own i x h; ⟨p, xs, a, b, c, dpa_mono e f⟩, G.inj, d, G.ext, G.ex.trans e, G.exc⟩
theorem get_set {α : Type} {l : List α} {i j : Nat} {x : α} {y : α} (h : (l.set i x)[j]? = some y) : (j = i ∧ y = x ∧ i < l.length) ∨ (j ≠ i ∧ l[j]? = some y) := by
  by_cases e : j = i
  · subst e
    by_cases q : j < l.length
    · rw [List.getElem?_set_self q] at h
      exact .inl ⟨rfl, (Option.some.inj h).symm, q⟩
    · rw [List.getElem?_eq_none (by simpa using q)] at h; cases h
  · rw [List.getElem?_set_ne (Ne.symm e)] at h
    exact .inr ⟨e, h⟩
theorem set_self {α : Type} {l : List α} {i : Nat} {x : α} (h : i < l.length) : (l.set i x)[i]? = some x := List.getElem?_set_self h
theorem exc_set {σ : L2.St} {ρ : En} {i : Nat} {x : Option V} {y : Option Sl} (E : ∀ (j : Nat) (c : Nat), ρ[j]? = some (some (Sl.exc c)) → σ[j]? = some (some (.ref ExQ.ea)) ∧ c = ExQ.ec) (hy : ∀ c, some (Sl.exc c) ≠ y) :
    ∀ (j : Nat) (c : Nat), (ρ.set i y)[j]? = some (some (Sl.exc c)) → (σ.set i x)[j]? = some (some (.ref ExQ.ea)) ∧ c = ExQ.ec := fun j c h => by
  rcases get_set h with ⟨_, q, _⟩ | ⟨e, q⟩
  · exact absurd q (hy c)
  · obtain ⟨a, b⟩ := E j c q
    exact ⟨by rw [List.getElem?_set_ne (Ne.symm e)]; exact a, b⟩
theorem exc_turn {σ : L2.St} {ρ : En} {i : Nat} {y : Option Sl} (E : ∀ (j : Nat) (c : Nat), ρ[j]? = some (some (Sl.exc c)) → σ[j]? = some (some (.ref ExQ.ea)) ∧ c = ExQ.ec) (hy : ∀ c, some (Sl.exc c) ≠ y) :
    ∀ (j : Nat) (c : Nat), (ρ.set i y)[j]? = some (some (Sl.exc c)) → σ[j]? = some (some (.ref ExQ.ea)) ∧ c = ExQ.ec := fun j c h => by
  rcases get_set h with ⟨_, q, _⟩ | ⟨e, q⟩
  · exact absurd q (hy c)
  · exact E j c q
/-- a slot gets a value -/
theorem Good.set {i : Nat} {v : V} {d : D} (G : Good K H0 T0 σ ρ H T) (g : Dp K H v d) : Good K H0 T0 (σ.set i (some v)) (ρ.set i (some (Sl.val d))) H T := by
  refine ⟨by rw [List.length_set, List.length_set]; exact G.len, fun j x h => ?_, fun j x h => ?_, fun j k ds es p h1 h2 h3 h4 => ?_, G.dis, G.ext, G.ex, exc_set G.exc (fun _ z => by cases z)⟩
  · rcases get_set h with ⟨e, q, l⟩ | ⟨e, q⟩
    · subst e
      cases q
      exact ⟨v, set_self (by rw [← G.len]; exact l), g⟩
    · obtain ⟨w, a, b⟩ := G.val j x q
      exact ⟨w, by rw [List.getElem?_set_ne (Ne.symm e)]; exact a, b⟩
  · rcases get_set h with ⟨e, q, l⟩ | ⟨e, q⟩
    · cases q
    · obtain ⟨p, xs, a, b⟩ := G.own j x q
      exact ⟨p, xs, by rw [List.getElem?_set_ne (Ne.symm e)]; exact a, b⟩
  · rcases get_set h1 with ⟨_, q, _⟩ | ⟨e1, q1⟩
    · cases q
    · rcases get_set h2 with ⟨_, q, _⟩ | ⟨e2, q2⟩
      · cases q
      · rw [List.getElem?_set_ne (Ne.symm e1)] at h3
        rw [List.getElem?_set_ne (Ne.symm e2)] at h4
        exact G.inj j k ds es p q1 q2 h3 h4
/-- a slot gets a new list of one's own -/
theorem Good.setOwn {i : Nat} {p : Addr} {xs : List V} {ds : List D} (G : Good K H0 T0 σ ρ H T) (g : DpAll K H xs ds) (hp : ov H T p = none) :
    Good K H0 T0 (σ.set i (some (.ref p))) (ρ.set i (some (Sl.own ds))) H (put T p xs) := by
  obtain ⟨hT, hH⟩ := ov_free hp
  have h0 : T0 p = none := by
    cases e : T0 p with
    | none => rfl
    | some ys => have := G.ext p ys e; rw [hT] at this; cases this
  have ne : ∀ a ys, T a = some ys → a ≠ p := fun a ys e z => by rw [z, hT] at e; cases e
  refine ⟨by rw [List.length_set, List.length_set]; exact G.len, fun j x h => ?_, fun j x h => ?_, fun j k ds es q h1 h2 h3 h4 => ?_, dis_put G.dis hH, fun a ys e => ?_, G.ex, exc_set G.exc (fun _ z => by cases z)⟩
  · rcases get_set h with ⟨e, q, l⟩ | ⟨e, q⟩
    · cases q
    · obtain ⟨w, a, b⟩ := G.val j x q
      exact ⟨w, by rw [List.getElem?_set_ne (Ne.symm e)]; exact a, b⟩
  · rcases get_set h with ⟨e, q, l⟩ | ⟨e, q⟩
    · cases q
      subst e
      exact ⟨p, xs, set_self (by rw [← G.len]; exact l), put_same, h0, g⟩
    · obtain ⟨r, ys, a, b, c⟩ := G.own j x q
      exact ⟨r, ys, by rw [List.getElem?_set_ne (Ne.symm e)]; exact a, by rw [put_ne (ne r ys b)]; exact b, c⟩
  · rcases get_set h1 with ⟨e1, q1, l1⟩ | ⟨e1, q1⟩
    · rcases get_set h2 with ⟨e2, q2, l2⟩ | ⟨e2, q2⟩
      · rw [e1, e2]
      · subst e1
        rw [set_self (by rw [← G.len]; exact l1)] at h3
        cases h3
        rw [List.getElem?_set_ne (Ne.symm e2)] at h4
        obtain ⟨r, ys, a, b, _⟩ := G.own k es q2
        rw [h4] at a
        cases a
        exact absurd rfl (ne _ ys b)
    · rcases get_set h2 with ⟨e2, q2, l2⟩ | ⟨e2, q2⟩
      · subst e2
        rw [set_self (by rw [← G.len]; exact l2)] at h4
        cases h4
        rw [List.getElem?_set_ne (Ne.symm e1)] at h3
        obtain ⟨r, ys, a, b, _⟩ := G.own j _ q1
        rw [h3] at a
        cases a
        exact absurd rfl (ne _ ys b)
      · rw [List.getElem?_set_ne (Ne.symm e1)] at h3
        rw [List.getElem?_set_ne (Ne.symm e2)] at h4
        exact G.inj j k _ es q q1 q2 h3 h4
  · rw [put_ne (ne a ys (G.ext a ys e))]
    exact G.ext a ys e
/-- a list of one's own turns -/
theorem Good.turn {i : Nat} {p : Addr} {xs ys : List V} {ds es : List D} (G : Good K H0 T0 σ ρ H T) (h : ρ[i]? = some (some (Sl.own ds))) (hs : σ[i]? = some (some (.ref p))) (ht : T p = some xs) (g : DpAll K H ys es) :
    Good K H0 T0 σ (ρ.set i (some (Sl.own es))) H (put T p ys) := by
  obtain ⟨p', xs', a, b, c, f⟩ := G.own i ds h
  rw [hs] at a
  cases a
  refine ⟨by rw [List.length_set]; exact G.len, fun j x q => ?_, fun j x q => ?_, fun j k as bs r h1 h2 h3 h4 => ?_, dis_put G.dis (G.dis p xs ht), fun a zs e => ?_, G.ex, exc_turn G.exc (fun _ z => by cases z)⟩
  · rcases get_set q with ⟨_, q, _⟩ | ⟨_, q⟩
    · cases q
    · exact G.val j x q
  · rcases get_set q with ⟨e, q, _⟩ | ⟨e, q⟩
    · cases q
      subst e
      exact ⟨p, ys, hs, put_same, c, g⟩
    · obtain ⟨r, zs, a, b, c⟩ := G.own j x q
      have : r ≠ p := fun z => e (G.inj j i x ds p q h (z ▸ a) hs)
      exact ⟨r, zs, a, by rw [put_ne this]; exact b, c⟩
  · have o1 : ∃ us, ρ[j]? = some (some (Sl.own us)) := by
      rcases get_set h1 with ⟨e, q, _⟩ | ⟨_, q⟩
      · exact ⟨ds, e ▸ h⟩
      · exact ⟨_, q⟩
    have o2 : ∃ us, ρ[k]? = some (some (Sl.own us)) := by
      rcases get_set h2 with ⟨e, q, _⟩ | ⟨_, q⟩
      · exact ⟨ds, e ▸ h⟩
      · exact ⟨_, q⟩
    obtain ⟨u1, o1⟩ := o1
    obtain ⟨u2, o2⟩ := o2
    exact G.inj j k u1 u2 r o1 o2 h3 h4
  · have : a ≠ p := fun z => by rw [z, c] at e; cases e
    rw [put_ne this]
    exact G.ext a zs e
def frz (i : Nat) (ρ : En) : En := match ρ[i]? with
  | some (some (Sl.own ds)) => ρ.set i (some (.val (.list ds)))
  | _ => ρ
/-- a list of one's own becomes a value -/
theorem Good.freeze (i : Nat) (G : Good K H0 T0 σ ρ H T) : ∃ H' T', Good K H0 T0 σ (frz i ρ) H' T' ∧ ov H T = ov H' T' ∧ Same H H' := by
  unfold frz
  split
  · rename_i ds h
    obtain ⟨p, xs, a, b, c, f⟩ := G.own i ds h
    have hp := G.dis p xs b
    have sm : Same H (upd H p (.lst xs)) := same_new hp
    have ne : ∀ r ys, T r = some ys → r ≠ p → cut T p r = some ys := fun r ys e q => by unfold cut; rw [if_neg q]; exact e
    refine ⟨upd H p (.lst xs), cut T p, ⟨by rw [List.length_set]; exact G.len, fun j x q => ?_, fun j x q => ?_, fun j k as bs r h1 h2 h3 h4 => ?_, ⟨fun r ys e => ?_, G.dis.tab.ext (raw_new hp)⟩, fun r ys e => ?_, G.ex.trans sm, exc_turn G.exc (fun _ z => by cases z)⟩, ov_freeze b, sm⟩
    · rcases get_set q with ⟨e, q, _⟩ | ⟨e, q⟩
      · cases q
        subst e
        exact ⟨.ref p, a, .lst (SqL.of upd_same) (dpa_mono sm f)⟩
      · obtain ⟨v, g, k⟩ := G.val j x q
        exact ⟨v, g, dp_mono sm k⟩
    · rcases get_set q with ⟨e, q, _⟩ | ⟨e, q⟩
      · cases q
      · obtain ⟨r, ys, g, k, l, m⟩ := G.own j x q
        exact ⟨r, ys, g, ne r ys k fun z => e (G.inj j i x ds p q h (z ▸ g) a), l, dpa_mono sm m⟩
    · rcases get_set h1 with ⟨_, q, _⟩ | ⟨_, q1⟩
      · cases q
      · rcases get_set h2 with ⟨_, q, _⟩ | ⟨_, q2⟩
        · cases q
        · exact G.inj j k as bs r q1 q2 h3 h4
    · unfold cut at e
      split at e
      · cases e
      · rename_i q
        rw [upd_ne q]
        exact G.dis r ys e
    · exact ne r ys (G.ext r ys e) fun z => by rw [z, c] at e; cases e
  · exact ⟨H, T, G, rfl, Same.refl H⟩
end
end DD

set_option Elab.async false
set_option linter.all false
set_option maxRecDepth 100000
set_option maxHeartbeats 2000000
namespace DD
variable [TabQ] [ExQ]
open PySem PySem.Spec PyProof.Rows L2

inductive Fl where
  | nx (ρ : En)
  | rt (d : D)
  | bk (ρ : En)
  | ct (ρ : En)

section
variable (K : PySem.W.Frag)
structure ET (te : TE) (m : En → Option D) : Prop where
  run : ∀ {H0 : Hp} {T0 : Ov} {σ : L2.St} {ρ : En} {H : Hp} {T : Ov} {d : D}, Good K H0 T0 σ ρ H T → m ρ = some d →
    ∀ Q : VK, (∀ v H', Same H H' → Dis H' T → Dp K H' v d → Q v (ov H' T)) → te σ (ov H T) Q
structure FL (te : TE) (m : En → Option (List D)) : Prop where
  run : ∀ {H0 : Hp} {T0 : Ov} {σ : L2.St} {ρ : En} {H : Hp} {T : Ov} {ds : List D}, Good K H0 T0 σ ρ H T → m ρ = some ds →
    ∀ Q : VK, (∀ p xs H', Same H H' → Dis H' T → ov H' T p = none → DpAll K H' xs ds → Q (.ref p) (upd (ov H' T) p (.lst xs))) → te σ (ov H T) Q
structure TTm (tt : TT) (m : En → Option Bool) : Prop where
  run : ∀ {H0 : Hp} {T0 : Ov} {σ : L2.St} {ρ : En} {H : Hp} {T : Ov} {b : Bool}, Good K H0 T0 σ ρ H T → m ρ = some b →
    ∀ Q : Bool → Hp → Prop, (∀ H', Same H H' → Dis H' T → Q b (ov H' T)) → tt σ (ov H T) Q
structure TAm (ta : TA) (m : En → Option (List D)) : Prop where
  run : ∀ {H0 : Hp} {T0 : Ov} {σ : L2.St} {ρ : En} {H : Hp} {T : Ov} {ds : List D}, Good K H0 T0 σ ρ H T → m ρ = some ds →
    ∀ Q : List V → Hp → Prop, (∀ vs H', Same H H' → Dis H' T → DpAll K H' vs ds → Q vs (ov H' T)) → ta σ (ov H T) Q
structure RD (r : R2) (f : D → D → Option D) : Prop where
  run : ∀ {H : Hp} {T : Ov} {x y : V} {a b d : D}, Dis H T → Dp K H x a → Dp K H y b → f a b = some d →
    ∀ Q : VK, (∀ v H', Same H H' → Dis H' T → Dp K H' v d → Q v (ov H' T)) → r x y (ov H T) Q
structure UD (r : V → Hp → VK → Prop) (f : D → Option D) : Prop where
  run : ∀ {H : Hp} {T : Ov} {x : V} {a d : D}, Dis H T → Dp K H x a → f a = some d →
    ∀ Q : VK, (∀ v H', Same H H' → Dis H' T → Dp K H' v d → Q v (ov H' T)) → r x (ov H T) Q
structure CD (r : List V → Hp → VK → Prop) (f : List D → Option D) : Prop where
  run : ∀ {H : Hp} {T : Ov} {vs : List V} {ds : List D} {d : D}, Dis H T → DpAll K H vs ds → f ds = some d →
    ∀ Q : VK, (∀ v H', Same H H' → Dis H' T → Dp K H' v d → Q v (ov H' T)) → r vs (ov H T) Q
structure CL (r : List V → Hp → VK → Prop) (f : List D → Option (List D)) : Prop where
  run : ∀ {H : Hp} {T : Ov} {vs : List V} {ds es : List D}, Dis H T → DpAll K H vs ds → f ds = some es →
    ∀ Q : VK, (∀ p xs H', Same H H' → Dis H' T → ov H' T p = none → DpAll K H' xs es → Q (.ref p) (upd (ov H' T) p (.lst xs))) → r vs (ov H T) Q
/-- a target; vs: the slots that it may change -/
structure TGm (vs : List Nat) (g : TG) (m : D → En → Option En) : Prop where
  run : ∀ {H0 : Hp} {T0 : Ov} {σ : L2.St} {ρ ρ2 : En} {H : Hp} {T : Ov} {v : V} {d : D}, Good K H0 T0 σ ρ H T → Dp K H v d → m d ρ = some ρ2 →
    ∀ Q : L2.St → Hp → Prop, (∀ σ2 H', Good K H0 T0 σ2 ρ2 H' T → Same H H' → wipe σ2 vs = wipe σ vs → Q σ2 (ov H' T)) → g v σ (ov H T) Q
structure TGsm (vs : List Nat) (g : TGs) (m : List D → En → Option En) : Prop where
  run : ∀ {H0 : Hp} {T0 : Ov} {σ : L2.St} {ρ ρ2 : En} {H : Hp} {T : Ov} {xs : List V} {ds : List D}, Good K H0 T0 σ ρ H T → DpAll K H xs ds → m ds ρ = some ρ2 →
    ∀ Q : L2.St → Hp → Prop, (∀ σ2 H', Good K H0 T0 σ2 ρ2 H' T → Same H H' → wipe σ2 vs = wipe σ vs → Q σ2 (ov H' T)) → g xs σ (ov H T) Q
/-- what is walked: the data that come -/
structure Wk (J : It) (Hm : Hp) (ds : List D) : Prop where
  go : ∀ {H : Hp} {T : Ov} (i : Nat), Same Hm H → Dis H T → i < ds.length → J.go i (ov H T)
  stop : ∀ {H : Hp} {T : Ov}, Same Hm H → Dis H T → J.stop ds.length (ov H T)
  yld : ∀ {H : Hp} {T : Ov} (i : Nat) {x : V} {Hc : Hp} {d : D}, Same Hm H → Dis H T → ds[i]? = some d → J.yld i (ov H T) x Hc → ∃ H2, Hc = ov H2 T ∧ Same H H2 ∧ Dis H2 T ∧ Dp K H2 x d
structure IT (wi : TI) (m : En → Option (List D)) : Prop where
  run : ∀ {H0 : Hp} {T0 : Ov} {σ : L2.St} {ρ : En} {H : Hp} {T : Ov} {ds : List D}, Good K H0 T0 σ ρ H T → m ρ = some ds →
    ∀ R : It → Hp → Prop, (∀ J H', Same H H' → Dis H' T → Wk K J H' ds → R J (ov H' T)) → wi σ (ov H T) R
def FlOk (H0 : Hp) (T0 : Ov) (E : Ends) : Fl → Prop
  | .nx ρ => ∀ σ H T, Good K H0 T0 σ ρ H T → E.nx σ (ov H T)
  | .bk ρ => ∀ σ H T, Good K H0 T0 σ ρ H T → E.bk σ (ov H T)
  | .ct ρ => ∀ σ H T, Good K H0 T0 σ ρ H T → E.ct σ (ov H T)
  | .rt d => ∀ v H T, Same H0 H → Dis H T → Ext T0 T → Dp K H v d → E.rt v (ov H T)
structure TSm (t : TS) (m : En → Option Fl) : Prop where
  run : ∀ {H0 : Hp} {T0 : Ov} {σ : L2.St} {ρ : En} {H : Hp} {T : Ov} {f : Fl}, Good K H0 T0 σ ρ H T → m ρ = some f → ∀ E : Ends, FlOk K H0 T0 E f → t E σ (ov H T)
/-- a def's promise by its mirror -/
def spM (n : Nat) (m : List D → Option D) : Sp := fun vs Hx Q _ => ∃ ds d H T, DpAll K H vs ds ∧ ds.length = n ∧ m ds = some d ∧ Hx = ov H T ∧ Dis H T ∧ ∀ v H', Same H H' → Dis H' T → Dp K H' v d → Q v (ov H' T)
end

/-! ### mirrors of expressions -/
def mVar (i : Nat) : En → Option D := fun ρ => match ρ[i]? with
  | some (some (.val d)) => some d
  | _ => none
def mC (d : D) : En → Option D := fun _ => some d
def mOp (f : D → D → Option D) (a b : En → Option D) : En → Option D := fun ρ => (a ρ).bind fun x => (b ρ).bind fun y => f x y
def mUn (f : D → Option D) (a : En → Option D) : En → Option D := fun ρ => (a ρ).bind f
def mList (a : En → Option (List D)) : En → Option D := fun ρ => (a ρ).map PyData.list
def mNil : En → Option (List D) := fun _ => some []
def mCons (a : En → Option D) (b : En → Option (List D)) : En → Option (List D) := fun ρ => (a ρ).bind fun x => (b ρ).map fun y => x :: y
def cap : Nat := 100000
def sized (ds : List D) : Option (List D) := if ds.length ≤ cap then some ds else none
def mTup (a : En → Option (List D)) : En → Option D := fun ρ => (a ρ).bind fun x => (sized x).map PyData.tuple
def mLst (a : En → Option (List D)) : En → Option (List D) := fun ρ => (a ρ).bind sized
def mCall (f : List D → Option D) (a : En → Option (List D)) : En → Option D := fun ρ => (a ρ).bind f
def mCallL (f : List D → Option (List D)) (a : En → Option (List D)) : En → Option (List D) := fun ρ => (a ρ).bind f
def isB : D → Option Bool
  | .bool b => some b
  | _ => none
def mTest (a : En → Option D) : En → Option Bool := fun ρ => (a ρ).bind isB
def mAnd (a b : En → Option Bool) : En → Option Bool := fun ρ => (a ρ).bind fun x => if x = true then b ρ else some false
def mOr (a b : En → Option Bool) : En → Option Bool := fun ρ => (a ρ).bind fun x => if x = true then some true else b ρ
def mNot (a : En → Option Bool) : En → Option Bool := fun ρ => (a ρ).map (!·)
def mAndV (a b : En → Option D) : En → Option D := fun ρ => (a ρ).bind fun x => (isB x).bind fun c => if c = true then b ρ else some (.bool false)
def mOrV (a b : En → Option D) : En → Option D := fun ρ => (a ρ).bind fun x => (isB x).bind fun c => if c = true then some (.bool true) else b ρ
def mNotV (a : En → Option D) : En → Option D := fun ρ => (a ρ).bind fun x => (isB x).map fun c => .bool (!c)
def mIfE (c : En → Option Bool) (a b : En → Option D) : En → Option D := fun ρ => (c ρ).bind fun x => if x = true then a ρ else b ρ
def mChain (f g : D → D → Option D) (a b c : En → Option D) : En → Option D := fun ρ => (a ρ).bind fun x => (b ρ).bind fun y => (f x y).bind fun z => (isB z).bind fun k => if k = true then (c ρ).bind fun w => g y w else some (.bool false)

section
variable {K : PySem.W.Frag} {ta tb tc te : TE} {ma mb mc : En → Option D} {r r' : R2} {f g : D → D → Option D}
theorem bind_some {α β : Type} {o : Option α} {k : α → Option β} {b : β} (h : o.bind k = some b) : ∃ a, o = some a ∧ k a = some b := by
  cases o with
  | none => cases h
  | some a => exact ⟨a, rfl, h⟩
theorem map_some {α β : Type} {o : Option α} {k : α → β} {b : β} (h : o.map k = some b) : ∃ a, o = some a ∧ k a = b := by
  cases o with
  | none => cases h
  | some a => exact ⟨a, rfl, Option.some.inj h⟩
theorem sized_some {ds es : List D} (h : sized ds = some es) : es = ds ∧ ds.length ≤ cap := by
  unfold sized at h
  split at h
  · exact ⟨(Option.some.inj h).symm, by assumption⟩
  · cases h
theorem cap_line {n : Nat} (h : n ≤ cap) : n ≤ sizeLine := Nat.le_trans h (by decide)
theorem cap_lt {n : Nat} (h : n ≤ cap) : n < sizeLine := Nat.lt_of_le_of_lt h (by decide)
theorem isB_some {d : D} {b : Bool} (h : isB d = some b) : d = .bool b := by
  cases d <;> simp [isB] at h
  subst h; rfl
theorem dp_bool {H : Hp} {v : V} {b : Bool} (h : Dp K H v (.bool b)) : v = .bl b := by cases h; rfl

theorem ev_var (i : Nat) : ET K (tVar i) (mVar i) := by
  refine ⟨fun {H0 T0 σ ρ H T d} G h Q q => ?_⟩
  unfold mVar at h
  split at h
  · rename_i x e
    cases h
    obtain ⟨v, a, b⟩ := G.val i d e
    exact ⟨v, a, q v H (Same.refl H) G.dis b⟩
  · cases h
theorem ev_c {v : V} {d : D} (h : ∀ H, Dp K H v d) : ET K (tC v) (mC d) := by
  refine ⟨fun {H0 T0 σ ρ H T e} G hh Q q => ?_⟩
  cases hh
  exact q v H (Same.refl H) G.dis (h H)
theorem ev_int {i : Int} : ET K (tC (.int i)) (mC (.int i)) := ev_c fun _ => .int i
theorem ev_str {x : Str} : ET K (tC (.str x)) (mC (.str x)) := ev_c fun _ => .str x
theorem ev_bl {b : Bool} : ET K (tC (.bl b)) (mC (.bool b)) := ev_c fun _ => .bl b
theorem ev_non : ET K (tC .non) (mC .none) := ev_c fun _ => .non
theorem ev_op (hr : RD K r f) (ha : ET K ta ma) (hb : ET K tb mb) : ET K (tOp r ta tb) (mOp f ma mb) := by
  refine ⟨fun {H0 T0 σ ρ H T d} G h Q q => ?_⟩
  obtain ⟨x, hx, h⟩ := bind_some h
  obtain ⟨y, hy, h⟩ := bind_some h
  refine ha.run G hx _ fun v H1 s1 d1 p1 => ?_
  refine hb.run (G.mono s1 d1) hy _ fun u H2 s2 d2 p2 => ?_
  exact hr.run d2 (dp_mono s2 p1) p2 h Q fun w H3 s3 d3 p3 => q w H3 ((s1.trans s2).trans s3) d3 p3
theorem ev_un {ru : V → Hp → VK → Prop} {fu : D → Option D} (hr : UD K ru fu) (ha : ET K ta ma) : ET K (tUn ru ta) (mUn fu ma) := by
  refine ⟨fun {H0 T0 σ ρ H T d} G h Q q => ?_⟩
  obtain ⟨x, hx, h⟩ := bind_some h
  refine ha.run G hx _ fun v H1 s1 d1 p1 => ?_
  exact hr.run d1 p1 h Q fun w H3 s3 d3 p3 => q w H3 (s1.trans s3) d3 p3
theorem ev_chain (hr : RD K r f) (hr' : RD K r' g) (ha : ET K ta ma) (hb : ET K tb mb) (hc : ET K tc mc) : ET K (tChain r r' ta tb tc) (mChain f g ma mb mc) := by
  refine ⟨fun {H0 T0 σ ρ H T d} G h Q q => ?_⟩
  obtain ⟨x, hx, h1⟩ := bind_some h
  obtain ⟨y, hy, h2⟩ := bind_some h1
  obtain ⟨z, hz, h3⟩ := bind_some h2
  obtain ⟨k, hk, h4⟩ := bind_some h3
  clear h h1 h2 h3
  obtain rfl := isB_some hk
  refine ha.run G hx _ fun v H1 s1 d1 p1 => ?_
  refine hb.run (G.mono s1 d1) hy _ fun u H2 s2 d2 p2 => ?_
  refine hr.run d2 (dp_mono s2 p1) p2 hz _ fun w H3 s3 d3 p3 => ?_
  cases dp_bool p3
  refine ⟨k, rfl, ?_⟩
  have G3 := (G.mono s1 d1).mono (s2.trans s3) d3
  cases k with
  | true =>
    rw [if_pos rfl] at h4 ⊢
    obtain ⟨w', hw, h5⟩ := bind_some h4
    refine hc.run G3 hw _ fun u4 H4 s4 d4 p4 => ?_
    exact hr'.run d4 (dp_mono (s3.trans s4) p2) p4 h5 Q fun w5 H5 s5 d5 p5 => q w5 H5 ((s1.trans s2).trans ((s3.trans s4).trans s5)) d5 p5
  | false =>
    rw [if_neg Bool.false_ne_true] at h4 ⊢
    cases h4
    exact q _ H3 ((s1.trans s2).trans s3) d3 (.bl false)
theorem ev_list (h : FL K te (m : En → Option (List D))) : ET K te (mList m) := by
  refine ⟨fun {H0 T0 σ ρ H T d} G hh Q q => ?_⟩
  obtain ⟨ds, hd, e⟩ := map_some hh
  subst e
  refine h.run G hd Q fun p xs H' s1 d1 n1 p1 => ?_
  obtain ⟨nT, nH⟩ := ov_free n1
  rw [upd_ov nT]
  exact q _ _ (s1.trans (same_new nH)) (dis_upd d1 nT nH) (.lst (SqL.of upd_same) (dpa_mono (same_new nH) p1))
theorem ea_nil : TAm K tNil mNil := ⟨fun {H0 T0 σ ρ H T ds} G h Q q => by cases h; exact q [] H (Same.refl H) G.dis .nil⟩
theorem ea_cons {tr : TA} {mr : En → Option (List D)} (ha : ET K ta ma) (hr : TAm K tr mr) : TAm K (tCons ta tr) (mCons ma mr) := by
  refine ⟨fun {H0 T0 σ ρ H T ds} G h Q q => ?_⟩
  obtain ⟨x, hx, h⟩ := bind_some h
  obtain ⟨y, hy, e⟩ := map_some h
  subst e
  refine ha.run G hx _ fun v H1 s1 d1 p1 => ?_
  exact hr.run (G.mono s1 d1) hy _ fun vs H2 s2 d2 p2 => q _ H2 (s1.trans s2) d2 (.cons (dp_mono s2 p1) p2)
theorem ev_tup {t : TA} {m : En → Option (List D)} (ha : TAm K t m) : ET K (tTup t) (mTup m) := by
  refine ⟨fun {H0 T0 σ ρ H T d} G h Q q => ?_⟩
  obtain ⟨x, hx, h⟩ := bind_some h
  obtain ⟨y, hy, e⟩ := map_some h
  subst e
  obtain ⟨rfl, hz⟩ := sized_some hy
  refine ha.run G hx _ fun vs H1 s1 d1 p1 => ?_
  refine ⟨cap_line (by rw [dpa_len p1]; exact hz), fun p np => ?_⟩
  obtain ⟨nT, nH⟩ := ov_free np
  rw [upd_ov nT]
  exact q _ _ (s1.trans (same_new nH)) (dis_upd d1 nT nH) (.tup (SqT.of upd_same) (dpa_mono (same_new nH) p1))
theorem fl_lst {t : TA} {m : En → Option (List D)} (ha : TAm K t m) : FL K (tLst t) (mLst m) := by
  refine ⟨fun {H0 T0 σ ρ H T d} G h Q q => ?_⟩
  obtain ⟨x, hx, h⟩ := bind_some h
  obtain ⟨rfl, hz⟩ := sized_some h
  refine ha.run G hx _ fun vs H1 s1 d1 p1 => ?_
  exact ⟨cap_line (by rw [dpa_len p1]; exact hz), fun p np => q p vs H1 s1 d1 np p1⟩
theorem ev_cb {rc : List V → Hp → VK → Prop} {fc : List D → Option D} {t : TA} {m : En → Option (List D)} (hc : CD K rc fc) (ha : TAm K t m) : ET K (tCB rc t) (mCall fc m) := by
  refine ⟨fun {H0 T0 σ ρ H T d} G h Q q => ?_⟩
  obtain ⟨x, hx, h⟩ := bind_some h
  refine ha.run G hx _ fun vs H1 s1 d1 p1 => ?_
  exact hc.run d1 p1 h Q fun w H3 s3 d3 p3 => q w H3 (s1.trans s3) d3 p3
theorem fl_cb {rc : List V → Hp → VK → Prop} {fc : List D → Option (List D)} {t : TA} {m : En → Option (List D)} (hc : CL K rc fc) (ha : TAm K t m) : FL K (tCB rc t) (mCallL fc m) := by
  refine ⟨fun {H0 T0 σ ρ H T d} G h Q q => ?_⟩
  obtain ⟨x, hx, h⟩ := bind_some h
  refine ha.run G hx _ fun vs H1 s1 d1 p1 => ?_
  exact hc.run d1 p1 h Q fun p xs H3 s3 d3 n3 p3 => q p xs H3 (s1.trans s3) d3 n3 p3
theorem ev_call {n : Nat} {mf : List D → Option D} {t : TA} {m : En → Option (List D)} {E : XK} (ha : TAm K t m) : ET K (tCall (spM K n mf) [] E t) (mCall (fun ds => if ds.length = n then mf ds else none) m) := by
  refine ⟨fun {H0 T0 σ ρ H T d} G h Q q => ?_⟩
  obtain ⟨x, hx, h⟩ := bind_some h
  refine ha.run G hx _ fun vs H1 s1 d1 p1 => ?_
  split at h
  · rename_i hn
    rw [List.append_nil]
    exact ⟨x, d, H1, T, p1, hn, h, rfl, d1, fun w H3 s3 d3 p3 => q w H3 (s1.trans s3) d3 p3⟩
  · cases h

/-! ### tests -/
variable {t u : TT} {m1 m2 : En → Option Bool}
theorem et_test (h : ET K ta ma) : TTm K (tTest ta) (mTest ma) := by
  refine ⟨fun {H0 T0 σ ρ H T b} G hh Q q => ?_⟩
  obtain ⟨x, hx, hb⟩ := bind_some hh
  obtain rfl := isB_some hb
  exact h.run G hx _ fun v H1 s1 d1 p1 => ⟨b, dp_bool p1, q H1 s1 d1⟩
theorem et_B (h : ET K ta ma) : TTm K (tB ta) (mTest ma) := by
  refine ⟨fun {H0 T0 σ ρ H T b} G hh Q q => ?_⟩
  obtain ⟨x, hx, hb⟩ := bind_some hh
  obtain rfl := isB_some hb
  exact h.run G hx _ fun v H1 s1 d1 p1 => ⟨b, dp_bool p1, q H1 s1 d1⟩
theorem et_and (h1 : TTm K t m1) (h2 : TTm K u m2) : TTm K (tAnd t u) (mAnd m1 m2) := by
  refine ⟨fun {H0 T0 σ ρ H T b} G hh Q q => ?_⟩
  obtain ⟨x, hx, hb⟩ := bind_some hh
  refine h1.run G hx _ fun H1 s1 d1 => ?_
  cases x with
  | true =>
    rw [if_pos rfl] at hb ⊢
    exact h2.run (G.mono s1 d1) hb _ fun H2 s2 d2 => q H2 (s1.trans s2) d2
  | false =>
    rw [if_neg Bool.false_ne_true] at hb ⊢
    cases hb
    exact q H1 s1 d1
theorem et_or (h1 : TTm K t m1) (h2 : TTm K u m2) : TTm K (tOr t u) (mOr m1 m2) := by
  refine ⟨fun {H0 T0 σ ρ H T b} G hh Q q => ?_⟩
  obtain ⟨x, hx, hb⟩ := bind_some hh
  refine h1.run G hx _ fun H1 s1 d1 => ?_
  cases x with
  | true =>
    rw [if_pos rfl] at hb ⊢
    cases hb
    exact q H1 s1 d1
  | false =>
    rw [if_neg Bool.false_ne_true] at hb ⊢
    exact h2.run (G.mono s1 d1) hb _ fun H2 s2 d2 => q H2 (s1.trans s2) d2
theorem et_not (h1 : TTm K t m1) : TTm K (tNot t) (mNot m1) := by
  refine ⟨fun {H0 T0 σ ρ H T b} G hh Q q => ?_⟩
  obtain ⟨x, hx, hb⟩ := map_some hh
  subst hb
  exact h1.run G hx _ fun H1 s1 d1 => q H1 s1 d1
theorem ev_andV (ha : ET K ta ma) (hb : ET K tb mb) : ET K (tAndV ta tb) (mAndV ma mb) := by
  refine ⟨fun {H0 T0 σ ρ H T d} G h Q q => ?_⟩
  obtain ⟨x, hx, h1⟩ := bind_some h
  obtain ⟨k, hk, h2⟩ := bind_some h1
  clear h h1
  rename _ => h
  obtain rfl := isB_some hk
  refine ha.run G hx _ fun v H1 s1 d1 p1 => ⟨k, dp_bool p1, ?_⟩
  cases k with
  | true =>
    rw [if_pos rfl] at h ⊢
    exact hb.run (G.mono s1 d1) h _ fun u H2 s2 d2 p2 => q u H2 (s1.trans s2) d2 p2
  | false =>
    rw [if_neg Bool.false_ne_true] at h ⊢
    cases h
    exact q _ H1 s1 d1 (.bl false)
theorem ev_orV (ha : ET K ta ma) (hb : ET K tb mb) : ET K (tOrV ta tb) (mOrV ma mb) := by
  refine ⟨fun {H0 T0 σ ρ H T d} G h Q q => ?_⟩
  obtain ⟨x, hx, h1⟩ := bind_some h
  obtain ⟨k, hk, h2⟩ := bind_some h1
  clear h h1
  rename _ => h
  obtain rfl := isB_some hk
  refine ha.run G hx _ fun v H1 s1 d1 p1 => ⟨k, dp_bool p1, ?_⟩
  cases k with
  | true =>
    rw [if_pos rfl] at h ⊢
    cases h
    exact q _ H1 s1 d1 (.bl true)
  | false =>
    rw [if_neg Bool.false_ne_true] at h ⊢
    exact hb.run (G.mono s1 d1) h _ fun u H2 s2 d2 p2 => q u H2 (s1.trans s2) d2 p2
theorem ev_notV (ha : ET K ta ma) : ET K (tNotV ta) (mNotV ma) := by
  refine ⟨fun {H0 T0 σ ρ H T d} G h Q q => ?_⟩
  obtain ⟨x, hx, h1⟩ := bind_some h
  obtain ⟨k, hk, h2⟩ := map_some h1
  clear h h1
  subst h2
  obtain rfl := isB_some hk
  exact ha.run G hx _ fun v H1 s1 d1 p1 => ⟨k, dp_bool p1, q _ H1 s1 d1 (.bl _)⟩
theorem ev_if (hc : TTm K t m1) (ha : ET K ta ma) (hb : ET K tb mb) : ET K (tIf t ta tb) (mIfE m1 ma mb) := by
  refine ⟨fun {H0 T0 σ ρ H T d} G h Q q => ?_⟩
  obtain ⟨x, hx, h⟩ := bind_some h
  refine hc.run G hx _ fun H1 s1 d1 => ?_
  cases x with
  | true =>
    rw [if_pos rfl] at h ⊢
    exact ha.run (G.mono s1 d1) h _ fun u H2 s2 d2 p2 => q u H2 (s1.trans s2) d2 p2
  | false =>
    rw [if_neg Bool.false_ne_true] at h ⊢
    exact hb.run (G.mono s1 d1) h _ fun u H2 s2 d2 p2 => q u H2 (s1.trans s2) d2 p2
end
end DD

set_option Elab.async false
set_option linter.all false
set_option maxRecDepth 100000
set_option maxHeartbeats 4000000
namespace DD
variable [TabQ] [ExQ]
open PySem PySem.Spec PyProof.Rows L2

theorem tuple_mul1 (l : Addr) (items : Array Value) (n : Nat) (dd : Option Addr) (sl : Array (Option Value)) (x : Int) (u : Tok) (c0 : (decide (x < -(2 ^ 63)) || decide (x ≥ 2 ^ 63)) = false) (c1 : (items.isEmpty || x == 1) = true) :
    Meets (Builtin.«tuple.__mul__» ⟨[.ref l, .int x u], []⟩) (fun _ R s => s.heap.get? l = some { cls := .type "tuple", dict := dd, data := .seq items n, slots := sl } ∧
      R (.ok (.ret (Value.ref l))) s) :=
  .of_wp fun prog w A R s h => by
    obtain ⟨hp, g, d, tk, os⟩ := s
    obtain ⟨hl, h⟩ := h
    have f1 := AutoSeq1.idx_int
    wp_walk using wpAny_loadPart' hl
    repeat (first
      | (refine wpAny_ite_false (decide_eq_false (by rw [c0]; exact Bool.false_ne_true)) ?_; wp_walk using wpAny_loadPart' hl)
      | (refine wpAny_ite_true (decide_eq_true c1) ?_; wp_walk using wpAny_loadPart' hl))
    exact ⟨_, rfl, h⟩
theorem tuple_mul0 (l : Addr) (items : Array Value) (n : Nat) (dd : Option Addr) (sl : Array (Option Value)) (x : Int) (u : Tok) (c0 : (decide (x < -(2 ^ 63)) || decide (x ≥ 2 ^ 63)) = false) (c1 : (items.isEmpty || x == 1) = false) (c2 : (decide (x ≤ 0) || items.isEmpty) = true) :
    Meets (Builtin.«tuple.__mul__» ⟨[.ref l, .int x u], []⟩) (fun _ R s => s.heap.get? l = some { cls := .type "tuple", dict := dd, data := .seq items n, slots := sl } ∧
      R (.ok (.ret (Value.ref s.heap.objs.size))) { s with heap := s.heap.push { cls := Value.type "tuple", data := Data.seq #[] }, toks := s.toks }) :=
  .of_wp fun prog w A R s h => by
    obtain ⟨hp, g, d, tk, os⟩ := s
    obtain ⟨hl, h⟩ := h
    have f1 := AutoSeq1.idx_int
    wp_walk using wpAny_loadPart' hl
    repeat (first
      | (refine wpAny_ite_false (decide_eq_false (by rw [c0]; exact Bool.false_ne_true)) ?_; wp_walk using wpAny_loadPart' hl)
      | (refine wpAny_ite_false (decide_eq_false (by rw [c1]; exact Bool.false_ne_true)) ?_; wp_walk using wpAny_loadPart' hl)
      | (refine wpAny_ite_true (decide_eq_true c2) ?_; wp_walk using wpAny_loadPart' hl))
    exact ⟨_, rfl, h⟩

section
variable {X : Cx}
def rRep0 (K : PySem.W.Frag) : R2 := fun x y H Q => ∃ l k xs, x = .ref l ∧ y = .int k ∧ SqT K H l xs ∧ xs ≠ [] ∧ k ≤ 1 ∧ -1000 ≤ k ∧ (k = 1 → Q (.ref l) H) ∧ (k ≤ 0 → ∀ p, H p = none → Q (.ref p) (upd H p (.tup [])))
theorem op_rep0 : OpR X (binaryOp .Mult) (rRep0 X.K) := by
  intro pins s σ H x y v u Q I rx ry h
  obtain ⟨l, k, xs, rfl, rfl, hT, hne, h1, h2, q1, q0⟩ := h
  cases rx
  obtain ⟨t, rfl⟩ := ry
  obtain ⟨its, r, ⟨⟨cls, dd, data, sl⟩, ho, hc, n, hd⟩, hs⟩ := I.tuple hT
  simp only at hc hd
  subst hc hd
  have hle : its.length = xs.length := r.length.symm
  have hn : its ≠ [] := fun e => hne (by
    rw [e] at hle
    exact List.eq_nil_of_length_eq_zero hle.symm)
  have hi : its.toArray.isEmpty = false := by
    cases its with
    | nil => exact absurd rfl hn
    | cons a b => rfl
  have c0 : (decide (k < -(2 ^ 63)) || decide (k ≥ 2 ^ 63)) = false := by
    rw [decide_eq_false (by omega), decide_eq_false (by omega)] <;> rfl
  by_cases hk : k = 1
  · have c1 : (its.toArray.isEmpty || k == 1) = true := by
      rw [hi, Bool.false_or]
      exact beq_iff_eq.mpr hk
    refine wpAny_binaryOp_repeat_ref (T := "tuple") (U := "int") (by decide) ⟨_, ho, rfl⟩ (fun s' => typeIs_int s' k t) noFill_tuple_mul F.fills_int_mul F.slot_int_rmul repeat_tuple F.slot_int_index.lookup
      (call_meets F.slot_int_rmul (typeIs_int s k t) F.entry_int_rmul (F.args_int_rmul_2 _ _) (int_rmul_tuple k t l its.toArray n dd sl)
        ⟨ho, rfl, ⟨_, ho, rfl⟩, call_meets F.slot_tuple_mul ⟨_, ho, rfl⟩ F.entry_tuple_mul (F.args_tuple_mul_2 _ _) (tuple_mul1 l its.toArray n dd sl k t c0 c1) ⟨ho, ?_⟩⟩)
    exact ⟨.ref l, H, I, rfl, q1 hk⟩
  · have c1 : (its.toArray.isEmpty || k == 1) = false := by
      rw [hi, Bool.false_or]
      exact beq_eq_false_iff_ne.mpr hk
    have c2 : (decide (k ≤ 0) || its.toArray.isEmpty) = true := by
      rw [decide_eq_true (by omega)]
      rfl
    refine wpAny_binaryOp_repeat_ref (T := "tuple") (U := "int") (by decide) ⟨_, ho, rfl⟩ (fun s' => typeIs_int s' k t) noFill_tuple_mul F.fills_int_mul F.slot_int_rmul repeat_tuple F.slot_int_index.lookup
      (call_meets F.slot_int_rmul (typeIs_int s k t) F.entry_int_rmul (F.args_int_rmul_2 _ _) (int_rmul_tuple k t l its.toArray n dd sl)
        ⟨ho, rfl, ⟨_, ho, rfl⟩, call_meets F.slot_tuple_mul ⟨_, ho, rfl⟩ F.entry_tuple_mul (F.args_tuple_mul_2 _ _) (tuple_mul0 l its.toArray n dd sl k t c0 c1 c2) ⟨ho, ?_⟩⟩)
    refine ⟨.ref s.heap.objs.size, _, I.laid (t' := s.toks) (o := .tup []) (fun b ob q => Heap.get?_push_of_some _ q) (Nat.le_refl _) ?_, rfl, q0 (by omega) _ (I.hok.fresh (Nat.le_refl _))⟩
    exact ⟨Nat.zero_le _, [], .nil, IsTup.new _ _⟩
end

/-! ### operations on data -/
section
variable {K : PySem.W.Frag} {H : Hp} {T : Ov} {x y v : V} {a b d : D}
theorem dp_int {i : Int} (h : Dp K H v (.int i)) : v = .int i := by cases h; rfl
theorem dp_str {z : Str} (h : Dp K H v (.str z)) : v = .str z := by cases h; rfl
theorem dp_non (h : Dp K H v .none) : v = .non := by cases h; rfl
theorem dp_tup {ds : List D} (h : Dp K H v (.tuple ds)) : ∃ p xs, v = .ref p ∧ SqT K H p xs ∧ DpAll K H xs ds := by cases h with | tup a b => exact ⟨_, _, rfl, a, b⟩
theorem dp_lst {ds : List D} (h : Dp K H v (.list ds)) : ∃ p xs, v = .ref p ∧ SqL K H p xs ∧ DpAll K H xs ds := by cases h with | lst a b => exact ⟨_, _, rfl, a, b⟩
theorem sqt_ov {p : Addr} {xs : List V} (dis : Dis H T) (h : SqT K H p xs) : SqT K (ov H T) p xs := Same.sqt (same_ov dis) h
theorem sql_ov {p : Addr} {xs : List V} (dis : Dis H T) (h : SqL K H p xs) : SqL K (ov H T) p xs := (same_ov dis).seq h
theorem dp_ov (dis : Dis H T) (h : Dp K H v d) : Dp K (ov H T) v d := dp_mono (same_ov dis) h
/-- a new tuple -/
theorem tup_new {Q : VK} {p : Addr} {xs : List V} {ds : List D} {H1 : Hp} (s : Same H H1) (dis : Dis H1 T) (np : ov H1 T p = none) (g : DpAll K H1 xs ds)
    (q : ∀ v H', Same H H' → Dis H' T → Dp K H' v (.tuple ds) → Q v (ov H' T)) : Q (.ref p) (upd (ov H1 T) p (.tup xs)) := by
  obtain ⟨nT, nH⟩ := ov_free np
  rw [upd_ov nT]
  exact q _ _ (s.trans (same_new nH)) (dis_upd dis nT nH) (.tup (SqT.of upd_same) (dpa_mono (same_new nH) g))

def inW (i : Int) : Bool := decide (-(2 ^ 64) < i) && decide (i < 2 ^ 64)
theorem inW_of {i : Int} (h : inW i = true) : -(2 ^ 64) < i ∧ i < 2 ^ 64 := by
  unfold inW at h
  rw [Bool.and_eq_true] at h
  exact ⟨of_decide_eq_true h.1, of_decide_eq_true h.2⟩
def dAdd : D → D → Option D
  | .int i, .int j => some (.int (i + j))
  | .str p, .str q => if p.length + q.length ≤ cap then some (.str (p ++ q)) else none
  | .tuple p, .tuple q => if p.length + q.length ≤ cap then some (.tuple (p ++ q)) else none
  | _, _ => none
def dSub : D → D → Option D
  | .int i, .int j => some (.int (i - j))
  | _, _ => none
def dMul : D → D → Option D
  | .int i, .int j => if (inW i || inW j) = true then some (.int (i * j)) else none
  | .tuple p, .int k => if p ≠ [] ∧ p.length ≤ 1000 ∧ -1000 ≤ k ∧ k ≤ 1000 then some (.tuple (List.replicate k.toNat p).flatten) else none
  | _, _ => none
def dFdiv : D → D → Option D
  | .int i, .int j => if 0 < j ∧ j.natAbs.log2 < 9000 then some (.int (i / j)) else none
  | _, _ => none
def dMod : D → D → Option D
  | .int i, .int j => if 0 < j then some (.int (i % j)) else none
  | _, _ => none
def dPow : D → D → Option D
  | .int i, .int j => if 0 ≤ j ∧ j ≤ 1000000 ∧ i.natAbs < 2 ^ 64 then some (.int (i ^ j.toNat)) else none
  | _, _ => none
def dNeg : D → Option D
  | .int i => some (.int (-i))
  | _ => none
def dCmp (p : Int → Int → Bool) : D → D → Option D
  | .int i, .int j => some (.bool (p i j))
  | _, _ => none
def dEq (a b : D) : Option D := if (SeqAt.shaped a && SeqAt.shaped b) = true then some (.bool (PyData.eqv a b)) else none
def dNe (a b : D) : Option D := if (SeqAt.shaped a && SeqAt.shaped b) = true then some (.bool (!PyData.eqv a b)) else none
def dIs : D → D → Option D
  | .none, .none => some (.bool true)
  | .bool _, .none => some (.bool false)
  | .int _, .none => some (.bool false)
  | .str _, .none => some (.bool false)
  | .tuple _, .none => some (.bool false)
  | .list _, .none => some (.bool false)
  | .bool p, .bool q => some (.bool (decide (p = q)))
  | _, _ => none
def dIsNot (a b : D) : Option D := (dIs a b).bind fun z => (isB z).map fun c => .bool (!c)

def rAddA (K : PySem.W.Frag) : R2 := fun x y H Q => rI0 (fun i j => .int (i + j)) x y H Q ∨ (∃ i j, x = V.str i ∧ y = .str j ∧ i.length + j.length ≤ sizeLine ∧ Q (.str (i ++ j)) H) ∨ rCatA K x y H Q
theorem op_addA {X : Cx} : OpR X (binaryOp .Add) (rAddA X.K) := op_add.or (op_add_str.or op_catA)
theorem rd_add : RD K (rAddA K) dAdd := by
  refine ⟨fun {H T x y a b d} dis ha hb h Q q => ?_⟩
  unfold dAdd at h
  split at h
  · cases h
    cases dp_int ha
    cases dp_int hb
    exact .inl ⟨_, _, rfl, rfl, q _ H (Same.refl H) dis (.int _)⟩
  · split at h
    · rename_i hz
      cases h
      cases dp_str ha
      cases dp_str hb
      exact .inr (.inl ⟨_, _, rfl, rfl, cap_line hz, q _ H (Same.refl H) dis (.str _)⟩)
    · cases h
  · split at h
    · rename_i p q' hz
      cases h
      obtain ⟨p1, xs, rfl, hx, gx⟩ := dp_tup ha
      obtain ⟨p2, ys, rfl, hy, gy⟩ := dp_tup hb
      refine .inr (.inr ⟨p1, p2, xs, ys, rfl, rfl, sqt_ov dis hx, sqt_ov dis hy, cap_line (by rw [dpa_len gx, dpa_len gy]; exact hz), fun e => ?_, fun _ e => ?_, fun _ _ r nr => ?_⟩)
      · rw [(dpa_nil_iff gx).mpr e, List.nil_append] at q
        exact q _ H (Same.refl H) dis hb
      · rw [(dpa_nil_iff gy).mpr e, List.append_nil] at q
        exact q _ H (Same.refl H) dis ha
      · exact tup_new (Same.refl H) dis nr (dpa_append gx gy) q
    · cases h
  · cases h
theorem rd_I0 {g : Int → Int → V} {f : D → D → Option D} (e : ∀ i j, ∃ d, f (.int i) (.int j) = some d ∧ ∀ H, Dp K H (g i j) d) (o : ∀ a b d, f a b = some d → ∃ i j, a = .int i ∧ b = .int j) : RD K (rI0 g) f := by
  refine ⟨fun {H T x y a b d} dis ha hb h Q q => ?_⟩
  obtain ⟨i, j, rfl, rfl⟩ := o a b d h
  obtain ⟨d', h', g'⟩ := e i j
  rw [h] at h'
  cases h'
  cases dp_int ha
  cases dp_int hb
  exact ⟨i, j, rfl, rfl, q _ H (Same.refl H) dis (g' H)⟩
theorem rd_sub : RD K (rI0 fun i j => .int (i - j)) dSub := rd_I0 (fun i j => ⟨_, rfl, fun _ => .int _⟩) fun a b d h => by
  unfold dSub at h
  split at h
  · exact ⟨_, _, rfl, rfl⟩
  · cases h
theorem rd_cmp {p : Int → Int → Bool} : RD K (rI0 fun i j => .bl (p i j)) (dCmp p) := rd_I0 (fun i j => ⟨_, rfl, fun _ => .bl _⟩) fun a b d h => by
  unfold dCmp at h
  split at h
  · exact ⟨_, _, rfl, rfl⟩
  · cases h
theorem rd_lt : RD K (rI0 fun i j => .bl (decide (i < j))) (dCmp fun i j => decide (i < j)) := rd_cmp
theorem rd_le : RD K (rI0 fun i j => .bl (decide (i ≤ j))) (dCmp fun i j => decide (i ≤ j)) := rd_cmp
theorem rd_gt : RD K (rI0 fun i j => .bl (decide (j < i))) (dCmp fun i j => decide (j < i)) := rd_cmp
theorem rd_ge : RD K (rI0 fun i j => .bl (decide (j ≤ i))) (dCmp fun i j => decide (j ≤ i)) := rd_cmp
theorem rd_I {C : Int → Int → Prop} {g : Int → Int → V} {f : D → D → Option D} (o : ∀ a b d, f a b = some d → ∃ i j, a = .int i ∧ b = .int j ∧ C i j ∧ ∀ H, Dp K H (g i j) d) : RD K (rI C g) f := by
  refine ⟨fun {H T x y a b d} dis ha hb h Q q => ?_⟩
  obtain ⟨i, j, rfl, rfl, c, g'⟩ := o a b d h
  cases dp_int ha
  cases dp_int hb
  exact ⟨i, j, rfl, rfl, c, q _ H (Same.refl H) dis (g' H)⟩
theorem rd_fdiv : RD K (rI CDivW fun i j => .int (i / j)) dFdiv := rd_I fun a b d h => by
  unfold dFdiv at h
  split at h
  · split at h
    · rename_i c
      cases h
      exact ⟨_, _, rfl, rfl, c, fun _ => .int _⟩
    · cases h
  · cases h
theorem rd_mod : RD K (rI (fun _ j => 0 < j) fun i j => .int (i % j)) dMod := rd_I fun a b d h => by
  unfold dMod at h
  split at h
  · split at h
    · rename_i c
      cases h
      exact ⟨_, _, rfl, rfl, c, fun _ => .int _⟩
    · cases h
  · cases h
theorem rd_pow : RD K (rI CPow fun i j => .int (i ^ j.toNat)) dPow := rd_I fun a b d h => by
  unfold dPow at h
  split at h
  · split at h
    · rename_i c
      cases h
      exact ⟨_, _, rfl, rfl, c, fun _ => .int _⟩
    · cases h
  · cases h
theorem ud_neg : UD K (rU fun i => .int (-i)) dNeg := by
  refine ⟨fun {H T x a d} dis ha h Q q => ?_⟩
  unfold dNeg at h
  split at h
  · cases h
    cases dp_int ha
    exact ⟨_, rfl, q _ H (Same.refl H) dis (.int _)⟩
  · cases h
def rMulA (K : PySem.W.Frag) : R2 := fun x y H Q => rI CMul (fun i j => .int (i * j)) x y H Q ∨ rRepT K x y H Q ∨ rRep0 K x y H Q
theorem op_mulA {X : Cx} : OpR X (binaryOp .Mult) (rMulA X.K) := op_mul.or (op_repT.or op_rep0)
theorem rd_mul : RD K (rMulA K) dMul := by
  refine ⟨fun {H T x y a b d} dis ha hb h Q q => ?_⟩
  unfold dMul at h
  split at h
  · split at h
    · rename_i c
      cases h
      cases dp_int ha
      cases dp_int hb
      refine .inl ⟨_, _, rfl, rfl, ?_, q _ H (Same.refl H) dis (.int _)⟩
      rw [Bool.or_eq_true] at c
      exact c.elim (fun z => .inl (inW_of z)) fun z => .inr (inW_of z)
    · cases h
  · split at h
    · rename_i p k c
      cases h
      obtain ⟨p1, xs, rfl, hx, gx⟩ := dp_tup ha
      cases dp_int hb
      have ne : xs ≠ [] := fun e => c.1 ((dpa_nil_iff gx).mpr e)
      by_cases hk : 2 ≤ k
      · refine .inr (.inl ⟨p1, k, xs, rfl, rfl, sqt_ov dis hx, ne, hk, c.2.2.2, by rw [dpa_len gx]; exact c.2.1, fun r nr => ?_⟩)
        exact tup_new (Same.refl H) dis nr (dpa_rep gx _) q
      · refine .inr (.inr ⟨p1, k, xs, rfl, rfl, sqt_ov dis hx, ne, by omega, c.2.2.1, fun e => ?_, fun e r nr => ?_⟩)
        · have : (List.replicate k.toNat p).flatten = p := by
            subst e
            show (List.replicate 1 p).flatten = p
            simp
          rw [this] at q
          exact q _ H (Same.refl H) dis ha
        · have e0 : k.toNat = 0 := by omega
          rw [e0] at q
          exact tup_new (Same.refl H) dis nr .nil q
    · cases h
  · cases h
theorem rd_eq : RD K (rEqD K) dEq := by
  refine ⟨fun {H T x y a b d} dis ha hb h Q q => ?_⟩
  unfold dEq at h
  split at h
  · rename_i c
    rw [Bool.and_eq_true] at c
    cases h
    exact ⟨a, b, dp_ov dis ha, dp_ov dis hb, c.1, c.2, q _ H (Same.refl H) dis (.bl _)⟩
  · cases h
theorem rd_ne : RD K (rNeD K) dNe := by
  refine ⟨fun {H T x y a b d} dis ha hb h Q q => ?_⟩
  unfold dNe at h
  split at h
  · rename_i c
    rw [Bool.and_eq_true] at c
    cases h
    exact ⟨a, b, dp_ov dis ha, dp_ov dis hb, c.1, c.2, q _ H (Same.refl H) dis (.bl _)⟩
  · cases h
def rIsA : R2 := fun x y H Q => rIsN x y H Q ∨ rIsB x y H Q
def rNotA : R2 := fun x y H Q => rNotN x y H Q ∨ rNotB x y H Q
theorem op_isA {X : Cx} : OpR X (compareOp .Is) rIsA := op_isN1.or op_isBl
theorem op_notA {X : Cx} : OpR X (compareOp .IsNot) rNotA := op_notN1.or op_notBl
theorem dis_cases {a b d : D} (h : dIs a b = some d) : (b = .none ∧ ∃ c, d = .bool c ∧ ∀ H v, Dp K H v a → decide (v = .non) = c) ∨ ∃ p q, a = .bool p ∧ b = .bool q ∧ d = .bool (decide (p = q)) := by
  unfold dIs at h
  split at h <;> first
    | (cases h; exact .inl ⟨rfl, _, rfl, fun H v g => by cases g <;> simp⟩)
    | (cases h; exact .inr ⟨_, _, rfl, rfl, rfl⟩)
    | cases h
theorem rd_is : RD K rIsA dIs := by
  refine ⟨fun {H T x y a b d} dis ha hb h Q q => ?_⟩
  rcases dis_cases (K := K) h with ⟨rfl, c, rfl, g⟩ | ⟨p, q', rfl, rfl, rfl⟩
  · exact .inl ⟨dp_non hb, by rw [g H x ha]; exact q _ H (Same.refl H) dis (.bl _)⟩
  · exact .inr ⟨p, q', dp_bool ha, dp_bool hb, q _ H (Same.refl H) dis (.bl _)⟩
theorem rd_isnot : RD K rNotA dIsNot := by
  refine ⟨fun {H T x y a b d} dis ha hb h Q q => ?_⟩
  obtain ⟨z, hz, h⟩ := bind_some h
  obtain ⟨k, hk, h⟩ := map_some h
  subst h
  rcases dis_cases (K := K) hz with ⟨rfl, c, rfl, g⟩ | ⟨p, q', rfl, rfl, rfl⟩
  · cases isB_some hk
    exact .inl ⟨dp_non hb, by rw [g H x ha]; exact q _ H (Same.refl H) dis (.bl _)⟩
  · cases isB_some hk
    exact .inr ⟨p, q', dp_bool ha, dp_bool hb, q _ H (Same.refl H) dis (.bl _)⟩
end
end DD

set_option Elab.async false
set_option linter.all false
set_option maxRecDepth 100000
set_option maxHeartbeats 4000000
namespace DD
variable [TabQ] [ExQ]
open PySem PySem.Spec PyProof.Rows L2
section
variable {K : PySem.W.Frag} {H : Hp} {T : Ov} {x y v : V} {a b d : D}

/-! ### len, all, any, max, min, tuple, list, sorted -/
def dLen : List D → Option D
  | [.str z] => if z.length ≤ cap then some (.int z.length) else none
  | [.list ds] => if ds.length ≤ cap then some (.int ds.length) else none
  | [.tuple ds] => if ds.length ≤ cap then some (.int ds.length) else none
  | _ => none
def rLenA (K : PySem.W.Frag) : List V → Hp → VK → Prop := fun xs H Q => ∃ x n, xs = [x] ∧ LenV K x H n ∧ Q (.int n) H
theorem cr_len {X : Cx} : CallR X (.builtin "len") (rLenA X.K) := call_len
theorem dpa_one {vs : List V} (h : DpAll K H vs [d]) : ∃ v, vs = [v] ∧ Dp K H v d := by
  cases h with
  | cons a b => cases b; exact ⟨_, rfl, a⟩
theorem dpa_two {vs : List V} (h : DpAll K H vs [a, b]) : ∃ u v, vs = [u, v] ∧ Dp K H u a ∧ Dp K H v b := by
  cases h with
  | cons p q =>
    obtain ⟨v, rfl, r⟩ := dpa_one q
    exact ⟨_, v, rfl, p, r⟩
theorem cd_len : CD K (rLenA K) dLen := by
  refine ⟨fun {H T vs ds d} dis h e Q q => ?_⟩
  unfold dLen at e
  split at e
  · split at e
    · rename_i z hz
      cases e
      obtain ⟨v, rfl, g⟩ := dpa_one h
      cases dp_str g
      exact ⟨_, _, rfl, ⟨cap_line hz, rfl⟩, q _ H (Same.refl H) dis (.int _)⟩
    · cases e
  · split at e
    · rename_i es hz
      cases e
      obtain ⟨v, rfl, g⟩ := dpa_one h
      obtain ⟨p, xs, rfl, hx, gx⟩ := dp_lst g
      exact ⟨_, _, rfl, .inl ⟨xs, sql_ov dis hx, rfl⟩, by rw [dpa_len gx]; exact q _ H (Same.refl H) dis (.int _)⟩
    · cases e
  · split at e
    · rename_i es hz
      cases e
      obtain ⟨v, rfl, g⟩ := dpa_one h
      obtain ⟨p, xs, rfl, hx, gx⟩ := dp_tup g
      exact ⟨_, _, rfl, .inr ⟨xs, sqt_ov dis hx, rfl⟩, by rw [dpa_len gx]; exact q _ H (Same.refl H) dis (.int _)⟩
    · cases e
  · cases e
/-- a list of truths -/
def bools : List D → Option (List Bool)
  | [] => some []
  | .bool b :: r => (bools r).map fun x => b :: x
  | _ => none
theorem bools_of : ∀ {ds : List D} {bs : List Bool}, bools ds = some bs → ∀ {vs : List V}, DpAll K H vs ds → vs = bs.map V.bl
  | [], bs, h, vs, g => by cases h; cases g; rfl
  | .bool b :: r, bs, h, vs, g => by
    obtain ⟨c, hc, e⟩ := map_some h
    subst e
    cases g with
    | cons p q => rw [List.map_cons, dp_bool p, bools_of hc q]
  | .none :: _, _, h, _, _ => by cases h
  | .int _ :: _, _, h, _, _ => by cases h
  | .str _ :: _, _, h, _, _ => by cases h
  | .list _ :: _, _, h, _, _ => by cases h
  | .tuple _ :: _, _, h, _, _ => by cases h
  | .dict _ :: _, _, h, _, _ => by cases h
def dAll : List D → Option D
  | [.list ds] => (bools ds).map fun bs => .bool (bs.all id)
  | _ => none
def dAny : List D → Option D
  | [.list ds] => (bools ds).map fun bs => .bool (bs.any id)
  | _ => none
theorem cd_all : CD K (rAll K) dAll := by
  refine ⟨fun {H T vs ds d} dis h e Q q => ?_⟩
  unfold dAll at e
  split at e
  · obtain ⟨bs, hb, e⟩ := map_some e
    subst e
    obtain ⟨v, rfl, g⟩ := dpa_one h
    obtain ⟨p, xs, rfl, hx, gx⟩ := dp_lst g
    rw [bools_of hb gx] at hx
    exact ⟨p, bs, rfl, sql_ov dis hx, q _ H (Same.refl H) dis (.bl _)⟩
  · cases e
theorem cd_any : CD K (rAny K) dAny := by
  refine ⟨fun {H T vs ds d} dis h e Q q => ?_⟩
  unfold dAny at e
  split at e
  · obtain ⟨bs, hb, e⟩ := map_some e
    subst e
    obtain ⟨v, rfl, g⟩ := dpa_one h
    obtain ⟨p, xs, rfl, hx, gx⟩ := dp_lst g
    rw [bools_of hb gx] at hx
    exact ⟨p, bs, rfl, sql_ov dis hx, q _ H (Same.refl H) dis (.bl _)⟩
  · cases e
def rMax2 : List V → Hp → VK → Prop := fun xs H Q => ∃ i j, xs = [.int i, .int j] ∧ Q (.int (if j > i then j else i)) H
def rMin2 : List V → Hp → VK → Prop := fun xs H Q => ∃ i j, xs = [.int i, .int j] ∧ Q (.int (if j < i then j else i)) H
theorem cr_max2 {X : Cx} (hc : X.calm = true) : CallR X (.builtin "max") rMax2 := call_max2 hc
theorem cr_min2 {X : Cx} (hc : X.calm = true) : CallR X (.builtin "min") rMin2 := call_min2 hc
def dMax2 : List D → Option D
  | [.int i, .int j] => some (.int (if j > i then j else i))
  | _ => none
def dMin2 : List D → Option D
  | [.int i, .int j] => some (.int (if j < i then j else i))
  | _ => none
theorem cd_max2 : CD K rMax2 dMax2 := by
  refine ⟨fun {H T vs ds d} dis h e Q q => ?_⟩
  unfold dMax2 at e
  split at e
  · cases e
    obtain ⟨u, v, rfl, g1, g2⟩ := dpa_two h
    cases dp_int g1
    cases dp_int g2
    exact ⟨_, _, rfl, q _ H (Same.refl H) dis (.int _)⟩
  · cases e
theorem cd_min2 : CD K rMin2 dMin2 := by
  refine ⟨fun {H T vs ds d} dis h e Q q => ?_⟩
  unfold dMin2 at e
  split at e
  · cases e
    obtain ⟨u, v, rfl, g1, g2⟩ := dpa_two h
    cases dp_int g1
    cases dp_int g2
    exact ⟨_, _, rfl, q _ H (Same.refl H) dis (.int _)⟩
  · cases e
def rTupOf (K : PySem.W.Frag) : List V → Hp → VK → Prop := fun xs H Q => ∃ p ys, xs = [.ref p] ∧ ((SqL K H p ys ∧ ∀ l, H l = none → Q (.ref l) (upd H l (.tup ys))) ∨ (SqT K H p ys ∧ Q (.ref p) H))
theorem cr_tupOf {X : Cx} : CallR X (.type "tuple") (rTupOf X.K) := call_tuple_of
def dTupOf : List D → Option D
  | [.list ds] => some (.tuple ds)
  | [.tuple ds] => some (.tuple ds)
  | _ => none
theorem cd_tupOf : CD K (rTupOf K) dTupOf := by
  refine ⟨fun {H T vs ds d} dis h e Q q => ?_⟩
  unfold dTupOf at e
  split at e
  · cases e
    obtain ⟨v, rfl, g⟩ := dpa_one h
    obtain ⟨p, xs, rfl, hx, gx⟩ := dp_lst g
    exact ⟨p, xs, rfl, .inl ⟨sql_ov dis hx, fun l nl => tup_new (Same.refl H) dis nl gx q⟩⟩
  · cases e
    obtain ⟨v, rfl, g⟩ := dpa_one h
    obtain ⟨p, xs, rfl, hx, gx⟩ := dp_tup g
    exact ⟨p, xs, rfl, .inr ⟨sqt_ov dis hx, q _ H (Same.refl H) dis g⟩⟩
  · cases e
def rLstOf (K : PySem.W.Frag) : List V → Hp → VK → Prop := fun xs H Q => ∃ p ys, xs = [.ref p] ∧ (SqL K H p ys ∨ SqT K H p ys) ∧ ∀ l, H l = none → Q (.ref l) (upd H l (.lst ys))
theorem cr_lstOf {X : Cx} : CallR X (.type "list") (rLstOf X.K) := call_list_of
def dLstOf : List D → Option (List D)
  | [.list ds] => some ds
  | [.tuple ds] => some ds
  | _ => none
theorem cl_lstOf : CL K (rLstOf K) dLstOf := by
  refine ⟨fun {H T vs ds es} dis h e Q q => ?_⟩
  unfold dLstOf at e
  split at e
  · cases e
    obtain ⟨v, rfl, g⟩ := dpa_one h
    obtain ⟨p, xs, rfl, hx, gx⟩ := dp_lst g
    exact ⟨p, xs, rfl, .inl (sql_ov dis hx), fun l nl => q l xs H (Same.refl H) dis nl gx⟩
  · cases e
    obtain ⟨v, rfl, g⟩ := dpa_one h
    obtain ⟨p, xs, rfl, hx, gx⟩ := dp_tup g
    exact ⟨p, xs, rfl, .inr (sqt_ov dis hx), fun l nl => q l xs H (Same.refl H) dis nl gx⟩
  · cases e

/-! ### isinstance -/
def tyName : D → String
  | .none => "NoneType"
  | .bool _ => "bool"
  | .int _ => "int"
  | .str _ => "str"
  | .list _ => "list"
  | .tuple _ => "tuple"
  | .dict _ => "dict"
theorem tyX_of (dis : Dis H T) (h : Dp K H v d) : TyX K (ov H T) v (.type (tyName d)) := by
  cases h with
  | non => exact .base .non
  | bl b => exact .base (.bl b)
  | int i => exact .base (.int i)
  | str z => exact .base (.str z)
  | lst hs _ =>
    rcases sql_ov dis hs with (h | ⟨o, h⟩) | ⟨o, its, n, hk, hc, _⟩
    · exact .base (.lst h)
    · exact .base (.frz h)
    · exact .kList hk hc
  | tup hs _ =>
    rcases sqt_ov dis hs with (h | ⟨o, h⟩) | ⟨o, its, n, hk, hc, _⟩
    · exact .base (.tup h)
    · exact .fTuple h
    · exact .kTuple hk hc
/-- whether a thing is of a built-in class -/
def isName (c t : String) : Bool := t == c || (c == "int" && t == "bool")
def isIt (c : String) (d : D) : Bool := isName c (tyName d)
def dIsi (c : String) (d : D) : Option D := some (.bool (isIt c d))
def tyNames : List String := ["NoneType", "bool", "int", "str", "list", "tuple", "dict"]
theorem ty_in (d : D) : tyName d ∈ tyNames := by cases d <;> simp [tyName, tyNames]
def ClsOk (c : String) : Prop := ∀ d : D, kitB (tyName d) c = some (isIt c d)
theorem cls_by {c : String} (h : ∀ t ∈ tyNames, kitB t c = some (isName c t)) : ClsOk c := fun d => h _ (ty_in d)
theorem cls_int : ClsOk "int" := cls_by (by decide +kernel)
theorem cls_bool : ClsOk "bool" := cls_by (by decide +kernel)
theorem cls_str : ClsOk "str" := cls_by (by decide +kernel)
theorem cls_list : ClsOk "list" := cls_by (by decide +kernel)
theorem cls_tuple : ClsOk "tuple" := cls_by (by decide +kernel)
theorem ev_isi {c : String} {ta : TE} {ma : En → Option D} (hc : ClsOk c) (ha : ET K ta ma) : ET K (tCB (rIsi K) (tCons ta (tCons (tC (.ty c)) tNil))) (mUn (dIsi c) ma) := by
  refine ⟨fun {H0 T0 σ ρ H T d} G h Q q => ?_⟩
  obtain ⟨x, hx, h⟩ := bind_some h
  cases h
  refine ha.run G hx _ fun v H1 s1 d1 p1 => ?_
  exact ⟨v, .ty c, _, _, _, rfl, .ty c, tyX_of d1 p1, kit_ty (hc x), q _ H1 s1 d1 (.bl _)⟩

/-! ### truth of a value -/
def tru : D → Option Bool
  | .none => some false
  | .bool b => some b
  | .int i => some (i != 0)
  | .str z => if z.length ≤ cap then some ((z.length : Int) != 0) else none
  | .list ds => some (!ds.isEmpty)
  | .tuple ds => some (!ds.isEmpty)
  | .dict _ => none
def mTru (a : En → Option D) : En → Option Bool := fun ρ => (a ρ).bind tru
theorem emp_of {xs : List V} {ds : List D} (h : DpAll K H xs ds) : xs.isEmpty = ds.isEmpty := by cases h <;> rfl
theorem et_tru {ta : TE} {ma : En → Option D} (ha : ET K ta ma) : TTm K (tTru K ta) (mTru ma) := by
  refine ⟨fun {H0 T0 σ ρ H T b} G h Q q => ?_⟩
  obtain ⟨x, hx, h⟩ := bind_some h
  refine ha.run G hx _ fun v H1 s1 d1 p1 => ⟨b, ?_, q H1 s1 d1⟩
  unfold tru at h
  split at h
  · cases h; cases dp_non p1; rfl
  · cases h; cases dp_bool p1; rfl
  · cases h; cases dp_int p1; rfl
  · split at h
    · rename_i hz
      cases h; cases dp_str p1; exact ⟨cap_line hz, rfl⟩
    · cases h
  · cases h
    obtain ⟨p, xs, rfl, hs, g⟩ := dp_lst p1
    exact .inl ⟨xs, sql_ov d1 hs, by rw [emp_of g]⟩
  · cases h
    obtain ⟨p, xs, rfl, hs, g⟩ := dp_tup p1
    exact .inr (.inl ⟨xs, sqt_ov d1 hs, by rw [emp_of g]⟩)
  · cases h

/-! ### places, slices -/
def dIx : D → D → Option D
  | .list ds, .int i => atI ds i
  | .tuple ds, .int i => atI ds i
  | .str z, .int i => if z.length ≤ cap then (atI z.cps.toList i).map fun c => .str ⟨#[c]⟩ else none
  | _, _ => none
theorem atI_dp {xs : List V} {ds : List D} (h : DpAll K H xs ds) {i : Int} (e : atI ds i = some d) : ∃ v, atI xs i = some v ∧ Dp K H v d := by
  unfold atI at e ⊢
  rw [dpa_len h]
  obtain ⟨j, hj, e⟩ := bind_some e
  rw [hj]
  exact dpa_get h e
theorem rd_ix : RD K (rIx K) dIx := by
  refine ⟨fun {H T x y a b d} dis ha hb h Q q => ?_⟩
  unfold dIx at h
  split at h
  · obtain ⟨p, xs, rfl, hs, g⟩ := dp_lst ha
    cases dp_int hb
    obtain ⟨v, hv, gv⟩ := atI_dp g h
    exact .inl ⟨p, xs, _, v, rfl, rfl, sql_ov dis hs, hv, q v H (Same.refl H) dis gv⟩
  · obtain ⟨p, xs, rfl, hs, g⟩ := dp_tup ha
    cases dp_int hb
    obtain ⟨v, hv, gv⟩ := atI_dp g h
    exact .inr (.inl ⟨p, xs, _, v, rfl, rfl, sqt_ov dis hs, hv, q v H (Same.refl H) dis gv⟩)
  · split at h
    · rename_i z i hz
      obtain ⟨c, hc, h⟩ := map_some h
      subst h
      cases dp_str ha
      cases dp_int hb
      exact .inr (.inr ⟨z, i, c, rfl, rfl, cap_line hz, hc, q _ H (Same.refl H) dis (.str _)⟩)
    · cases h
  · cases h
/-- a slice's parts -/
structure PAm (K : PySem.W.Frag) (t : TO) (m : En → Option (Option Int)) : Prop where
  run : ∀ {H0 : Hp} {T0 : Ov} {σ : L2.St} {ρ : En} {H : Hp} {T : Ov} {o : Option Int}, Good K H0 T0 σ ρ H T → m ρ = some o →
    ∀ Q : Option Int → Hp → Prop, (∀ H', Same H H' → Dis H' T → Q o (ov H' T)) → t σ (ov H T) Q
def mNoPart : En → Option (Option Int) := fun _ => some none
def isI : D → Option Int
  | .int i => some i
  | _ => none
def mPart (a : En → Option D) : En → Option (Option Int) := fun ρ => (a ρ).bind fun x => (isI x).map some
theorem po_no : PAm K tNoPart mNoPart := ⟨fun {H0 T0 σ ρ H T o} G h Q q => by cases h; exact q H (Same.refl H) G.dis⟩
theorem po_part {ta : TE} {ma : En → Option D} (ha : ET K ta ma) : PAm K (tPart ta) (mPart ma) := by
  refine ⟨fun {H0 T0 σ ρ H T o} G h Q q => ?_⟩
  obtain ⟨x, hx, h⟩ := bind_some h
  obtain ⟨i, hi, h⟩ := map_some h
  subst h
  have e : x = .int i := by
    unfold isI at hi
    split at hi
    · cases hi; rfl
    · cases hi
  subst e
  exact ha.run G hx _ fun v H1 s1 d1 p1 => ⟨i, dp_int p1, q H1 s1 d1⟩
def cutD (ds : List D) (lo hi : Option Int) : List D := (ds.drop (HT.sIx ds.length 0 lo)).take (HT.sIx ds.length ds.length hi - HT.sIx ds.length 0 lo)
theorem dpa_cut {xs : List V} {ds : List D} (h : DpAll K H xs ds) (lo hi : Option Int) : DpAll K H (cutV xs lo hi) (cutD ds lo hi) := by
  unfold cutV cutD
  rw [dpa_len h]
  exact dpa_take _ (dpa_drop _ h)
def dSl (d : D) (lo hi : Option Int) : Option D := match d with
  | .tuple ds => some (.tuple (cutD ds lo hi))
  | .str z => if z.length ≤ cap then some (.str (cutS z lo hi)) else none
  | _ => none
def mSl (a : En → Option D) (l h : En → Option (Option Int)) : En → Option D := fun ρ => (a ρ).bind fun x => (l ρ).bind fun lo => (h ρ).bind fun hi => dSl x lo hi
def rSlX (K : PySem.W.Frag) : V → Option Int → Option Int → Hp → VK → Prop := fun x lo hi H Q => rSlA K x lo hi H Q ∨ rSlS x lo hi H Q
theorem sl_any {X : Cx} : SlR X (rSlX X.K) := SlR.or sl_tupA sl_str
theorem ev_sl {ta : TE} {tl th : TO} {ma : En → Option D} {ml mh : En → Option (Option Int)} (ha : ET K ta ma) (hl : PAm K tl ml) (hh : PAm K th mh) : ET K (tSl (rSlX K) ta tl th) (mSl ma ml mh) := by
  refine ⟨fun {H0 T0 σ ρ H T d} G h Q q => ?_⟩
  obtain ⟨x, hx, h1⟩ := bind_some h
  obtain ⟨lo, hlo, h2⟩ := bind_some h1
  obtain ⟨hi, hhi, h3⟩ := bind_some h2
  refine ha.run G hx _ fun v H1 s1 d1 p1 => ?_
  refine hl.run (G.mono s1 d1) hlo _ fun H2 s2 d2 => ?_
  refine hh.run (G.mono (s1.trans s2) d2) hhi _ fun H3 s3 d3 => ?_
  have p3 := dp_mono (s2.trans s3) p1
  have s13 := (s1.trans s2).trans s3
  unfold dSl at h3
  split at h3
  · cases h3
    obtain ⟨p, xs, rfl, hs, g⟩ := dp_tup p3
    refine .inl ⟨p, xs, rfl, sqt_ov d3 hs, fun hw => ?_, fun hw r nr => ?_⟩
    · refine q _ H3 s13 d3 ?_
      have := dpa_cut g lo hi
      unfold cutV at this
      rw [hw.1, hw.2, List.drop_zero, Nat.sub_zero, List.take_length] at this
      exact .tup hs this
    · exact tup_new (Same.refl H3) d3 nr (dpa_cut g lo hi) fun u H4 s4 d4 p4 => q u H4 (s13.trans s4) d4 p4
  · split at h3
    · rename_i hz
      cases h3
      cases dp_str p3
      exact .inr ⟨_, rfl, cap_line hz, q _ H3 s13 d3 (.str _)⟩
    · cases h3
  · cases h3
def mSlL (a : En → Option D) (l h : En → Option (Option Int)) : En → Option (List D) := fun ρ => (a ρ).bind fun x => (l ρ).bind fun lo => (h ρ).bind fun hi => match x with
  | .list ds => some (cutD ds lo hi)
  | _ => none
theorem fl_sl {ta : TE} {tl th : TO} {ma : En → Option D} {ml mh : En → Option (Option Int)} (ha : ET K ta ma) (hl : PAm K tl ml) (hh : PAm K th mh) : FL K (tSl (rSlL K) ta tl th) (mSlL ma ml mh) := by
  refine ⟨fun {H0 T0 σ ρ H T d} G h Q q => ?_⟩
  obtain ⟨x, hx, h1⟩ := bind_some h
  obtain ⟨lo, hlo, h2⟩ := bind_some h1
  obtain ⟨hi, hhi, h3⟩ := bind_some h2
  refine ha.run G hx _ fun v H1 s1 d1 p1 => ?_
  refine hl.run (G.mono s1 d1) hlo _ fun H2 s2 d2 => ?_
  refine hh.run (G.mono (s1.trans s2) d2) hhi _ fun H3 s3 d3 => ?_
  have p3 := dp_mono (s2.trans s3) p1
  split at h3
  · cases h3
    obtain ⟨p, xs, rfl, hs, g⟩ := dp_lst p3
    exact ⟨p, xs, rfl, sql_ov d3 hs, fun r nr => q r _ H3 ((s1.trans s2).trans s3) d3 nr (dpa_cut g lo hi)⟩
  · cases h3

/-! ### in -/
def dInS : D → D → Option D
  | .str p, .str z => match p.cps.toList with
    | [c] => some (.bool (decide (c ∈ z.cps.toList)))
    | _ => none
  | _, _ => none
def dNotInS (a b : D) : Option D := (dInS a b).bind fun z => (isB z).map fun c => .bool (!c)
theorem inS_cases {a b d : D} (h : dInS a b = some d) : ∃ c z, a = .str ⟨#[c]⟩ ∧ b = .str z ∧ d = .bool (decide (c ∈ z.cps.toList)) := by
  unfold dInS at h
  split at h
  · rename_i p z
    split at h
    · rename_i c e
      cases h
      refine ⟨c, z, ?_, rfl, rfl⟩
      obtain ⟨p⟩ := p
      have : p = #[c] := by
        have e' : p.toList = [c] := e
        rw [← Array.toArray_toList (xs := p), e']
      rw [this]
    · cases h
  · cases h
theorem rd_inS : RD K rInS dInS := by
  refine ⟨fun {H T x y a b d} dis ha hb h Q q => ?_⟩
  obtain ⟨c, z, rfl, rfl, rfl⟩ := inS_cases h
  exact ⟨c, z, dp_str ha, dp_str hb, q _ H (Same.refl H) dis (.bl _)⟩
theorem rd_notInS : RD K rNotInS dNotInS := by
  refine ⟨fun {H T x y a b d} dis ha hb h Q q => ?_⟩
  obtain ⟨w, hw, h⟩ := bind_some h
  obtain ⟨k, hk, h⟩ := map_some h
  subst h
  obtain ⟨c, z, rfl, rfl, rfl⟩ := inS_cases hw
  cases isB_some hk
  exact ⟨c, z, dp_str ha, dp_str hb, q _ H (Same.refl H) dis (.bl _)⟩
/-- in a list of any data -/
def dInL : D → D → Option D
  | x, .list ds => if (SeqAt.shaped x && SeqAt.shaped (.list ds)) = true then some (.bool (ds.any fun z => PyData.eqv z x)) else none
  | _, _ => none
def dNotInL (a b : D) : Option D := (dInL a b).bind fun z => (isB z).map fun c => .bool (!c)
theorem rd_inL : RD K (rInD K) dInL := by
  refine ⟨fun {H T x y a b d} dis ha hb h Q q => ?_⟩
  unfold dInL at h
  split at h
  · rename_i ds
    split at h
    · rename_i c
      rw [Bool.and_eq_true] at c
      cases h
      exact ⟨a, ds, dp_ov dis ha, dp_ov dis hb, c.1, c.2, q _ H (Same.refl H) dis (.bl _)⟩
    · cases h
  · cases h
theorem rd_notInL : RD K (rNotInD K) dNotInL := by
  refine ⟨fun {H T x y a b d} dis ha hb h Q q => ?_⟩
  obtain ⟨w, hw, h⟩ := bind_some h
  obtain ⟨k, hk, h⟩ := map_some h
  subst h
  unfold dInL at hw
  split at hw
  · rename_i ds
    split at hw
    · rename_i c
      rw [Bool.and_eq_true] at c
      cases hw
      cases isB_some hk
      exact ⟨a, ds, dp_ov dis ha, dp_ov dis hb, c.1, c.2, q _ H (Same.refl H) dis (.bl _)⟩
    · cases hw
  · cases hw
/-- in a tuple of flat data -/
def flatD : D → Bool
  | .none => true
  | .bool _ => true
  | .int _ => true
  | .str _ => true
  | _ => false
def dInT (neg : Bool) : D → D → Option D
  | x, .tuple ds => if (flatD x && ds.all flatD) = true then some (.bool (if neg then !(ds.any fun z => PyData.eqv z x) else ds.any fun z => PyData.eqv z x)) else none
  | _, _ => none
theorem flat_of (h : Dp K H v d) (f : flatD d = true) : flatV v = true := by cases h <;> first | rfl | cases f
theorem flatA_of : ∀ {xs : List V} {ds : List D}, DpAll K H xs ds → ds.all flatD = true → xs.all flatV = true
  | _, _, .nil, _ => rfl
  | _, _, .cons h t, f => by
    rw [List.all_cons, Bool.and_eq_true] at f
    rw [List.all_cons, flat_of h f.1, flatA_of t f.2]
    rfl
theorem eqV_eqv {x y : V} {a b : D} (ha : Dp K H x a) (hb : Dp K H y b) (fa : flatD a = true) (fb : flatD b = true) : eqV x y = PyData.eqv a b := by
  cases ha <;> first | (cases fa; done) | (cases hb <;> first | (cases fb; done) | (simp [eqV, PyData.eqv]; done) | rfl)
theorem inV_eqv {x : V} {a : D} (ha : Dp K H x a) (fa : flatD a = true) : ∀ {xs : List V} {ds : List D}, DpAll K H xs ds → ds.all flatD = true → inV x xs = ds.any fun z => PyData.eqv z a
  | _, _, .nil, _ => rfl
  | _, _, .cons (vs := vs) (ds := ds) h t, f => by
    rw [List.all_cons, Bool.and_eq_true] at f
    have ih := inV_eqv ha fa t f.2
    unfold inV at ih ⊢
    rw [List.any_cons, List.any_cons, ih, eqV_eqv h ha f.1 fa]
theorem rd_inT {neg : Bool} : RD K (rIn K neg) (dInT neg) := by
  refine ⟨fun {H T x y a b d} dis ha hb h Q q => ?_⟩
  unfold dInT at h
  split at h
  · rename_i ds
    split at h
    · rename_i c
      rw [Bool.and_eq_true] at c
      cases h
      obtain ⟨p, xs, rfl, hs, g⟩ := dp_tup hb
      refine ⟨p, xs, rfl, .inr (sqt_ov dis hs), flat_of ha c.1, flatA_of g c.2, ?_⟩
      rw [inV_eqv ha c.1 g c.2]
      exact q _ H (Same.refl H) dis (.bl _)
    · cases h
  · cases h
end
end DD

set_option Elab.async false
set_option linter.all false
set_option maxRecDepth 100000
set_option maxHeartbeats 4000000
namespace DD
variable [TabQ] [ExQ]
open PySem PySem.Spec PyProof.Rows L2

/-! ### mirrors of statements -/
def sNext : En → Option Fl := fun ρ => some (.nx ρ)
def sSeq (a b : En → Option Fl) : En → Option Fl := fun ρ => (a ρ).bind fun f => match f with
  | .nx ρ' => b ρ'
  | f => some f
def sIf (c : En → Option Bool) (a b : En → Option Fl) : En → Option Fl := fun ρ => (c ρ).bind fun x => if x = true then a ρ else b ρ
def sRet (a : En → Option D) : En → Option Fl := fun ρ => (a ρ).map Fl.rt
def sDrop (a : En → Option D) : En → Option Fl := fun ρ => (a ρ).map fun _ => .nx ρ
def gSet (i : Nat) (d : D) (ρ : En) : Option En := some (ρ.set i (some (.val d)))
def sAsg (a : En → Option D) (g : D → En → Option En) : En → Option Fl := fun ρ => (a ρ).bind fun d => (g d ρ).map Fl.nx
def sOwn (i : Nat) (a : En → Option (List D)) : En → Option Fl := fun ρ => (a ρ).map fun ds => .nx (ρ.set i (some (.own ds)))
def sFrz (i : Nat) (a : En → Option Fl) : En → Option Fl := fun ρ => a (frz i ρ)
def sPar (i j : Nat) (a b : En → Option D) : En → Option Fl := fun ρ => (a ρ).bind fun x => (b ρ).map fun y => .nx ((ρ.set i (some (.val x))).set j (some (.val y)))
def sBrk : En → Option Fl := fun ρ => some (.bk ρ)
def sCnt : En → Option Fl := fun ρ => some (.ct ρ)
def sStop : En → Option Fl := fun _ => none
def loop (g : D → En → Option En) (b : En → Option Fl) : List D → En → Option Fl
  | [], ρ => some (.nx ρ)
  | d :: ds, ρ => (g d ρ).bind fun ρ1 => (b ρ1).bind fun f => match f with
    | .nx ρ2 => loop g b ds ρ2
    | .ct ρ2 => loop g b ds ρ2
    | .bk ρ2 => some (.nx ρ2)
    | .rt d => some (.rt d)
def sFor (it : En → Option (List D)) (g : D → En → Option En) (b : En → Option Fl) : En → Option Fl := fun ρ => (it ρ).bind fun ds => loop g b ds ρ
def whl (c : En → Option Bool) (b : En → Option Fl) : Nat → En → Option Fl
  | 0, _ => none
  | n + 1, ρ => (c ρ).bind fun x => if x = true then (b ρ).bind fun f => match f with
      | .nx ρ2 => whl c b n ρ2
      | .ct ρ2 => whl c b n ρ2
      | .bk ρ2 => some (.nx ρ2)
      | .rt d => some (.rt d)
    else some (.nx ρ)
def sWhile (fuel : En → Nat) (c : En → Option Bool) (b : En → Option Fl) : En → Option Fl := fun ρ => whl c b (fuel ρ) ρ
def sAppend (i : Nat) (a : En → Option D) : En → Option Fl := fun ρ => match ρ[i]? with
  | some (some (.own ds)) => (a ρ).bind fun d => if ds.length < cap then some (.nx (ρ.set i (some (.own (ds ++ [d]))))) else none
  | _ => none
def sExtend (i : Nat) (a : En → Option (List D)) : En → Option Fl := fun ρ => match ρ[i]? with
  | some (some (.own ds)) => (a ρ).bind fun es => if ds.length + es.length ≤ cap then some (.nx (ρ.set i (some (.own (ds ++ es))))) else none
  | _ => none

section
variable {K : PySem.W.Frag} {t u : TS} {te ta tb : TE} {ma mb : En → Option D} {m1 m2 : En → Option Fl}
theorem st_next : TSm K tNext sNext := ⟨fun {H0 T0 σ ρ H T f} G h E q => by cases h; exact q σ H T G⟩
theorem st_brk : TSm K tBreak sBrk := ⟨fun {H0 T0 σ ρ H T f} G h E q => by cases h; exact q σ H T G⟩
theorem st_cnt : TSm K tCont sCnt := ⟨fun {H0 T0 σ ρ H T f} G h E q => by cases h; exact q σ H T G⟩
theorem st_stop {t : TS} : TSm K t sStop := ⟨fun {H0 T0 σ ρ H T f} G h E q => by cases h⟩
theorem st_seq (h1 : TSm K t m1) (h2 : TSm K u m2) : TSm K (tSeq t u) (sSeq m1 m2) := by
  refine ⟨fun {H0 T0 σ ρ H T f} G h E q => ?_⟩
  obtain ⟨x, hx, h⟩ := bind_some h
  refine h1.run G hx _ ?_
  cases x with
  | nx ρ' => exact fun σ' H' T' G' => h2.run G' h E q
  | rt d => cases h; exact q
  | bk ρ' => cases h; exact q
  | ct ρ' => cases h; exact q
theorem FlOk.mono {H0 : Hp} {T0 : Ov} {E : Ends} {f : Fl} (h : FlOk K H0 T0 E f) : FlOk K H0 T0 E f := h
theorem st_if {tc : TT} {mc : En → Option Bool} (hc : TTm K tc mc) (h1 : TSm K t m1) (h2 : TSm K u m2) : TSm K (tIfS tc t u) (sIf mc m1 m2) := by
  refine ⟨fun {H0 T0 σ ρ H T f} G h E q => ?_⟩
  obtain ⟨x, hx, h⟩ := bind_some h
  refine hc.run G hx _ fun H1 s1 d1 => ?_
  cases x with
  | true =>
    rw [if_pos rfl] at h ⊢
    exact h1.run (G.mono s1 d1) h E q
  | false =>
    rw [if_neg Bool.false_ne_true] at h ⊢
    exact h2.run (G.mono s1 d1) h E q
theorem st_ret (ha : ET K te ma) : TSm K (tRet te) (sRet ma) := by
  refine ⟨fun {H0 T0 σ ρ H T f} G h E q => ?_⟩
  obtain ⟨x, hx, h⟩ := map_some h
  subst h
  exact ha.run G hx _ fun v H1 s1 d1 p1 => q v H1 T (G.ex.trans s1) d1 G.ext p1
theorem st_drop (ha : ET K te ma) : TSm K (tDrop te) (sDrop ma) := by
  refine ⟨fun {H0 T0 σ ρ H T f} G h E q => ?_⟩
  obtain ⟨x, hx, h⟩ := map_some h
  subst h
  exact ha.run G hx _ fun v H1 s1 d1 p1 => q σ H1 T (G.mono s1 d1)
theorem tg_name (i : Nat) {vs : List Nat} (hi : i ∈ vs) : TGm K vs (gName i) (gSet i) := by
  refine ⟨fun {H0 T0 σ ρ ρ2 H T v d} G g h Q q => ?_⟩
  cases h
  refine q _ H (G.set g) (Same.refl H) ?_
  have wset : ∀ (vs : List Nat) (σ : L2.St) (x : Option V), i ∈ vs → wipe (σ.set i x) vs = wipe σ vs := by
    intro vs
    induction vs with
    | nil => intro σ x h; cases h
    | cons j r ih =>
      intro σ x h
      show (wipe (σ.set i x) r).set j none = (wipe σ r).set j none
      rcases List.mem_cons.mp h with rfl | h
      · by_cases hr : i ∈ r
        · rw [ih σ x hr]
        · have : ∀ (r : List Nat) (σ : L2.St), i ∉ r → wipe (σ.set i x) r = (wipe σ r).set i x := by
            intro r
            induction r with
            | nil => intro σ _; rfl
            | cons k r ih2 =>
              intro σ h
              show (wipe (σ.set i x) r).set k none = ((wipe σ r).set k none).set i x
              rw [ih2 σ (fun z => h (List.mem_cons_of_mem _ z)), List.set_comm _ _ (fun z : i = k => h (by rw [z]; exact List.mem_cons_self))]
          rw [this r σ hr, List.set_set]
      · rw [ih σ x h]
  exact wset vs σ _ hi
theorem st_asg {vs : List Nat} {g : TG} {mg : D → En → Option En} (ha : ET K te ma) (hg : TGm K vs g mg) : TSm K (tAsg te g) (sAsg ma mg) := by
  refine ⟨fun {H0 T0 σ ρ H T f} G h E q => ?_⟩
  obtain ⟨x, hx, h⟩ := bind_some h
  obtain ⟨ρ2, h2, h⟩ := map_some h
  subst h
  exact ha.run G hx _ fun v H1 s1 d1 p1 => hg.run (G.mono s1 d1) p1 h2 _ fun σ2 H2 G2 _ _ => q σ2 H2 T G2
theorem st_set (i : Nat) (ha : ET K te ma) : TSm K (tAsg te (gName i)) (sAsg ma (gSet i)) := st_asg ha (tg_name i (vs := [i]) List.mem_cons_self)
theorem st_own (i : Nat) {m : En → Option (List D)} (ha : FL K te m) : TSm K (tAsg te (gName i)) (sOwn i m) := by
  refine ⟨fun {H0 T0 σ ρ H T f} G h E q => ?_⟩
  obtain ⟨ds, hd, h⟩ := map_some h
  subst h
  refine ha.run G hd _ fun p xs H1 s1 d1 n1 p1 => ?_
  rw [upd_put]
  exact q _ _ _ ((G.mono s1 d1).setOwn p1 n1)
theorem st_frz (i : Nat) (h1 : TSm K t m1) : TSm K t (sFrz i m1) := by
  refine ⟨fun {H0 T0 σ ρ H T f} G h E q => ?_⟩
  obtain ⟨H', T', G', e, _⟩ := G.freeze i
  rw [e]
  exact h1.run G' h E q
theorem st_par {i j : Nat} (ha : ET K ta ma) (hb : ET K tb mb) : TSm K (tPar i j (tCons ta (tCons tb tNil))) (sPar i j ma mb) := by
  refine ⟨fun {H0 T0 σ ρ H T f} G h E q => ?_⟩
  obtain ⟨x, hx, h⟩ := bind_some h
  obtain ⟨y, hy, h⟩ := map_some h
  subst h
  refine ha.run G hx _ fun v H1 s1 d1 p1 => ?_
  refine hb.run (G.mono s1 d1) hy _ fun w H2 s2 d2 p2 => ⟨v, w, rfl, ?_⟩
  exact q _ H2 T (((G.mono (s1.trans s2) d2).set (dp_mono s2 p1)).set p2)
theorem st_append {i : Nat} (ha : ET K te ma) : TSm K (tDrop (tBM K "list" rAppend (tVar i) (tCons te tNil))) (sAppend i ma) := by
  refine ⟨fun {H0 T0 σ ρ H T f} G h E q => ?_⟩
  unfold sAppend at h
  split at h
  · rename_i ds e
    obtain ⟨x, hx, h⟩ := bind_some h
    split at h
    · rename_i hz
      cases h
      obtain ⟨p, xs, a, b, c, g⟩ := G.own i ds e
      refine ⟨.ref p, a, .inl ⟨rfl, xs, SqL.of (ov_own b)⟩, ?_⟩
      refine ha.run G hx _ fun v H1 s1 d1 p1 => ?_
      refine ⟨p, xs, v, rfl, rfl, ov_own b, cap_lt (by rw [dpa_len g]; omega), ?_⟩
      rw [upd_put]
      exact q _ _ _ ((G.mono s1 d1).turn e a b (dpa_snoc (dpa_mono s1 g) p1))
    · cases h
  · cases h
theorem st_extend {i : Nat} {m : En → Option (List D)} (ha : FL K te m) : TSm K (tDrop (tBM K "list" rExtend (tVar i) (tCons te tNil))) (sExtend i m) := by
  refine ⟨fun {H0 T0 σ ρ H T f} G h E q => ?_⟩
  unfold sExtend at h
  split at h
  · rename_i ds e
    obtain ⟨es, hx, h⟩ := bind_some h
    split at h
    · rename_i hz
      cases h
      obtain ⟨p, xs, a, b, c, g⟩ := G.own i ds e
      refine ⟨.ref p, a, .inl ⟨rfl, xs, SqL.of (ov_own b)⟩, ?_⟩
      refine ha.run G hx _ fun r ys H1 s1 d1 n1 p1 => ?_
      obtain ⟨nT, nH⟩ := ov_free n1
      have ne : p ≠ r := fun z => by rw [← z, b] at nT; cases nT
      refine ⟨p, r, xs, ys, rfl, rfl, by rw [upd_ne ne]; exact ov_own b, upd_same, cap_line (by rw [dpa_len g, dpa_len p1]; exact hz), ?_⟩
      rw [upd_ov nT, upd_put]
      have s2 : Same H1 (upd H1 r (.lst ys)) := same_new nH
      exact q _ _ _ ((G.mono (s1.trans s2) (dis_upd d1 nT nH)).turn e a b (dpa_append (dpa_mono (s1.trans s2) g) (dpa_mono s2 p1)))
    · cases h
  · cases h
theorem st_for {wi : TI} {mi : En → Option (List D)} {vs : List Nat} {g : TG} {mg : D → En → Option En} (hi : IT K wi mi) (hg : TGm K vs g mg) (hb : TSm K t m1) : TSm K (tFor wi g t) (sFor mi mg m1) := by
  refine ⟨fun {H0 T0 σ ρ H T f} G h E q => ?_⟩
  obtain ⟨ds, hd, h⟩ := bind_some h
  refine hi.run G hd _ fun J Hm s1 d1 w => ?_
  refine ⟨fun i m σ Hc => i ≤ ds.length ∧ m = ds.length - i ∧ ∃ ρ H T, Hc = ov H T ∧ Good K H0 T0 σ ρ H T ∧ Same Hm H ∧ loop mg m1 (ds.drop i) ρ = some f, ⟨ds.length, Nat.zero_le _, rfl, ρ, Hm, T, rfl, G.mono s1 d1, Same.refl Hm, h⟩, ?_⟩
  rintro i m σ1 Hc ⟨hi, rfl, ρ1, H1, T1, rfl, G1, sm, hl⟩
  by_cases hlt : i < ds.length
  · have hge : ds[i]? = some ds[i] := List.getElem?_eq_getElem hlt
    rw [List.drop_eq_getElem_cons hlt] at hl
    obtain ⟨ρ2, h2, hl⟩ := bind_some hl
    obtain ⟨f3, h3, hl⟩ := bind_some hl
    refine .inr ⟨w.go i sm G1.dis hlt, fun σ' Hc' => ∃ ρ H T, Hc' = ov H T ∧ Good K H0 T0 σ' ρ H T ∧ Same Hm H ∧ loop mg m1 (ds.drop (i + 1)) ρ = some f, fun σ' Hc' ⟨ρ', H', T', e', G', s', l'⟩ => ⟨ds.length - (i + 1), by omega, by omega, rfl, ρ', H', T', e', G', s', l'⟩, fun x Hc' y => ?_⟩
    obtain ⟨H2, rfl, s2, d2, p2⟩ := w.yld i sm G1.dis hge y
    refine hg.run (G1.mono s2 d2) p2 h2 _ fun σ3 H3 G3 s3 _ => ?_
    refine hb.run (H0 := H3) (T0 := T0) (σ := σ3) (ρ := ρ2) (H := H3) (T := T1) ⟨G3.len, G3.val, G3.own, G3.inj, G3.dis, G3.ext, Same.refl H3, G3.exc⟩ h3 _ ?_
    have s03 : Same H0 H3 := G3.ex
    cases f3 with
    | nx ρ4 => exact fun σ4 H4 T4 G4 => ⟨ρ4, H4, T4, rfl, ⟨G4.len, G4.val, G4.own, G4.inj, G4.dis, G4.ext, s03.trans G4.ex, G4.exc⟩, (sm.trans (s2.trans s3)).trans G4.ex, hl⟩
    | ct ρ4 => exact fun σ4 H4 T4 G4 => ⟨ρ4, H4, T4, rfl, ⟨G4.len, G4.val, G4.own, G4.inj, G4.dis, G4.ext, s03.trans G4.ex, G4.exc⟩, (sm.trans (s2.trans s3)).trans G4.ex, hl⟩
    | bk ρ4 =>
      cases hl
      exact fun σ4 H4 T4 G4 => q σ4 H4 T4 ⟨G4.len, G4.val, G4.own, G4.inj, G4.dis, G4.ext, s03.trans G4.ex, G4.exc⟩
    | rt d =>
      cases hl
      exact fun v H4 T4 s4 d4 e4 p4 => q v H4 T4 (s03.trans s4) d4 e4 p4
  · have e : i = ds.length := by omega
    subst e
    rw [List.drop_length] at hl
    cases hl
    exact .inl ⟨w.stop sm G1.dis, q σ1 H1 T1 G1⟩
theorem st_while {tc : TT} {mc : En → Option Bool} (fuel : En → Nat) (hc : TTm K tc mc) (hb : TSm K t m1) : TSm K (tWhile tc t) (sWhile fuel mc m1) := by
  refine ⟨fun {H0 T0 σ ρ H T f} G h E q => ?_⟩
  refine ⟨fun m σ Hc => ∃ ρ H T, Hc = ov H T ∧ Good K H0 T0 σ ρ H T ∧ whl mc m1 m ρ = some f, ⟨fuel ρ, ρ, H, T, rfl, G, h⟩, ?_⟩
  rintro m σ1 Hc ⟨ρ1, H1, T1, rfl, G1, hw⟩
  cases m with
  | zero => cases hw
  | succ n =>
    obtain ⟨x, hx, hw⟩ := bind_some hw
    refine hc.run G1 hx _ fun H2 s2 d2 => ?_
    have G2 := G1.mono s2 d2
    cases x with
    | true =>
      rw [if_pos rfl] at hw ⊢
      obtain ⟨f3, h3, hl⟩ := bind_some hw
      refine ⟨fun σ' Hc' => ∃ ρ H T, Hc' = ov H T ∧ Good K H0 T0 σ' ρ H T ∧ whl mc m1 n ρ = some f, fun σ' Hc' h' => ⟨n, Nat.lt_succ_self n, h'⟩, ?_⟩
      refine hb.run G2 h3 _ ?_
      cases f3 with
      | nx ρ4 => exact fun σ4 H4 T4 G4 => ⟨ρ4, H4, T4, rfl, G4, hl⟩
      | ct ρ4 => exact fun σ4 H4 T4 G4 => ⟨ρ4, H4, T4, rfl, G4, hl⟩
      | bk ρ4 => cases hl; exact q
      | rt d => cases hl; exact q
    | false =>
      rw [if_neg Bool.false_ne_true] at hw ⊢
      cases hw
      exact q σ1 H2 T1 G2

/-! ### what is walked -/
def its : D → Option (List D)
  | .list ds => some ds
  | .tuple ds => some ds
  | .str z => some (z.cps.toList.map fun c => .str ⟨#[c]⟩)
  | _ => none
def mIter (a : En → Option D) : En → Option (List D) := fun ρ => (a ρ).bind its
def iAny (K : PySem.W.Frag) (te : TE) : TI := fun σ H R => te σ H fun x H1 => (∃ a, x = .ref a ∧ (∃ xs, SqL K H1 a xs) ∧ R (Itl K a) H1) ∨ (∃ a, x = .ref a ∧ (∃ xs, SqT K H1 a xs) ∧ R (Itt K a) H1) ∨ ∃ z, x = .str z ∧ R (Its z) H1
theorem pi_any {X : Cx} {tg l : Expr} {tl : TE} (hl : PE X l tl) : PI X tg l (iAny X.K tl) := by
  refine ⟨fun pins s σ H R I h => ?_⟩
  refine thn (hl.run pins s σ H _ I h) fun v s1 ⟨x, H1, I1, r1, q1⟩ => ?_
  rcases q1 with ⟨a, e, ⟨xs, hq⟩, q⟩ | ⟨a, e, ⟨xs, hq⟩, q⟩ | ⟨z, e, q⟩
  · subst e
    cases r1
    obtain ⟨its, rv, p, hz⟩ := I1.list hq
    refine wpAny_pyIter_list p.isList ?_
    refine ⟨s1.heap.objs.size, [s1.heap.objs.size], _, _, H1, rfl, I1.kept (t' := s1.toks) fun b o e => Heap.get?_push_of_some _ e, turn_list a _, ⟨_, Heap.get?_push_size _ rfl, rfl, rfl⟩, fun b hb => ?_, q⟩
    have e : b = s1.heap.objs.size := by simpa using hb
    subst e
    exact I1.fpOk (Nat.le_refl _) (I1.hok.fresh (Nat.le_refl _))
  · subst e
    cases r1
    obtain ⟨its, rv, p, hz⟩ := I1.tuple hq
    refine wpAny_pyIter_tuple (show s1.heap.IsTuple a its.toArray from p) ?_
    refine ⟨s1.heap.objs.size, [s1.heap.objs.size], _, _, H1, rfl, I1.kept (t' := s1.toks) fun b o e => Heap.get?_push_of_some _ e, turn_tuple a _, ⟨_, Heap.get?_push_size _ rfl, rfl, rfl⟩, fun b hb => ?_, q⟩
    have e : b = s1.heap.objs.size := by simpa using hb
    subst e
    exact I1.fpOk (Nat.le_refl _) (I1.hok.fresh (Nat.le_refl _))
  · subst e
    obtain ⟨t, rfl⟩ := r1
    cases ha : z.cps.all (· < 128)
    · exact wpAny_pyIter_wide ha (pi_one (tk := s1.toks) I1 _ (turn_str _ z t "str_iterator" (.inr rfl)) ⟨_, Heap.get?_push_size _ rfl, rfl, rfl⟩ q)
    · exact wpAny_pyIter_ascii ha (pi_one (tk := s1.toks) I1 _ (turn_str _ z t "str_ascii_iterator" (.inl rfl)) ⟨_, Heap.get?_push_size _ rfl, rfl, rfl⟩ q)
theorem it_any {ma : En → Option D} (ha : ET K te ma) : IT K (iAny K te) (mIter ma) := by
  refine ⟨fun {H0 T0 σ ρ H T ds} G h R q => ?_⟩
  obtain ⟨x, hx, h⟩ := bind_some h
  refine ha.run G hx _ fun v H1 s1 d1 p1 => ?_
  unfold its at h
  split at h
  · cases h
    obtain ⟨p, xs, rfl, hs, g⟩ := dp_lst p1
    refine .inl ⟨p, rfl, ⟨xs, sql_ov d1 hs⟩, q _ H1 s1 d1 ⟨fun {H T} i sm dis hi => ?_, fun {H T} sm dis => ?_, fun {H T} i {x Hc d} sm dis hd y => ?_⟩⟩
    · rw [← dpa_len g] at hi
      exact ⟨xs, xs[i], sql_ov dis (sm.seq hs), by simp [hi]⟩
    · exact ⟨xs, sql_ov dis (sm.seq hs), by rw [dpa_len g]; exact Nat.le_refl _⟩
    · obtain ⟨rfl, y⟩ := y
      obtain ⟨w, hw, gw⟩ := dpa_get g hd
      have := y xs (sql_ov dis (sm.seq hs))
      rw [hw] at this
      cases this
      exact ⟨H, rfl, Same.refl H, dis, dp_mono sm gw⟩
  · cases h
    obtain ⟨p, xs, rfl, hs, g⟩ := dp_tup p1
    refine .inr (.inl ⟨p, rfl, ⟨xs, sqt_ov d1 hs⟩, q _ H1 s1 d1 ⟨fun {H T} i sm dis hi => ?_, fun {H T} sm dis => ?_, fun {H T} i {x Hc d} sm dis hd y => ?_⟩⟩)
    · rw [← dpa_len g] at hi
      exact ⟨xs, xs[i], sqt_ov dis (Same.sqt sm hs), by simp [hi]⟩
    · exact ⟨xs, sqt_ov dis (Same.sqt sm hs), by rw [dpa_len g]; exact Nat.le_refl _⟩
    · obtain ⟨rfl, y⟩ := y
      obtain ⟨w, hw, gw⟩ := dpa_get g hd
      have := y xs (sqt_ov dis (Same.sqt sm hs))
      rw [hw] at this
      cases this
      exact ⟨H, rfl, Same.refl H, dis, dp_mono sm gw⟩
  · rename_i z
    cases h
    refine .inr (.inr ⟨z, dp_str p1, q _ H1 s1 d1 ⟨fun {H T} i sm dis hi => ?_, fun {H T} sm dis => ?_, fun {H T} i {x Hc d} sm dis hd y => ?_⟩⟩)
    · rw [List.length_map, Array.length_toList] at hi
      exact hi
    · show z.cps.size ≤ _
      rw [List.length_map, Array.length_toList]
      exact Nat.le_refl _
    · obtain ⟨rfl, c, hc, rfl⟩ := y
      rw [List.getElem?_map, Array.getElem?_toList, hc] at hd
      cases hd
      exact ⟨H, rfl, Same.refl H, dis, .str _⟩
  · cases h
/-- range(n), range(a, b) -/
def upto (lo : Int) (n : Nat) : List D := (List.range n).map fun (i : Nat) => PyData.int (lo + (i : Int))
def mRange (a : En → Option (List D)) : En → Option (List D) := fun ρ => (a ρ).bind fun ds => match ds with
  | [.int j] => if -(2 ^ 62) ≤ j ∧ j < 2 ^ 62 then some (upto 0 j.toNat) else none
  | [.int i, .int j] => if -(2 ^ 62) ≤ i ∧ i < 2 ^ 62 ∧ -(2 ^ 62) ≤ j ∧ j < 2 ^ 62 then some (upto i (j - i).toNat) else none
  | _ => none
theorem wk_range {Hm : Hp} {lo : Int} {n : Nat} : Wk K (Itr lo n) Hm (upto lo n) := by
  refine ⟨fun {H T} i sm dis hi => ?_, fun {H T} sm dis => ?_, fun {H T} i {x Hc d} sm dis hd y => ?_⟩
  · unfold upto at hi
    rw [List.length_map, List.length_range] at hi
    exact hi
  · unfold upto
    rw [List.length_map, List.length_range]
    exact Nat.le_refl _
  · obtain ⟨rfl, rfl⟩ := y
    unfold upto at hd
    rw [List.getElem?_map] at hd
    by_cases hi : i < n
    · rw [List.getElem?_range hi] at hd
      cases hd
      exact ⟨H, rfl, Same.refl H, dis, .int _⟩
    · rw [List.getElem?_eq_none (by simpa using hi)] at hd
      cases hd
theorem it_range1 {ta : TA} {m : En → Option (List D)} (ha : TAm K ta m) : IT K (iRng1 ta) (mRange fun ρ => (m ρ).bind fun ds => if ds.length = 1 then some ds else none) := by
  refine ⟨fun {H0 T0 σ ρ H T ds} G h R q => ?_⟩
  obtain ⟨x, hx, h⟩ := bind_some h
  obtain ⟨y, hy, hx⟩ := bind_some hx
  split at hx
  · rename_i hl
    cases hx
    refine ha.run G hy _ fun vs H1 s1 d1 p1 => ?_
    split at h
    · split at h
      · rename_i hb
        cases h
        obtain ⟨v, rfl, g⟩ := dpa_one p1
        cases dp_int g
        exact ⟨_, rfl, hb.1, hb.2, q _ H1 s1 d1 wk_range⟩
      · cases h
    · cases hl
    · cases h
  · cases hx
theorem it_range2 {ta : TA} {m : En → Option (List D)} (ha : TAm K ta m) : IT K (iRng2 ta) (mRange fun ρ => (m ρ).bind fun ds => if ds.length = 2 then some ds else none) := by
  refine ⟨fun {H0 T0 σ ρ H T ds} G h R q => ?_⟩
  obtain ⟨x, hx, h⟩ := bind_some h
  obtain ⟨y, hy, hx⟩ := bind_some hx
  split at hx
  · rename_i hl
    cases hx
    refine ha.run G hy _ fun vs H1 s1 d1 p1 => ?_
    split at h
    · cases hl
    · split at h
      · rename_i hb
        cases h
        obtain ⟨u, v, rfl, g1, g2⟩ := dpa_two p1
        cases dp_int g1
        cases dp_int g2
        exact ⟨_, _, rfl, hb, q _ H1 s1 d1 wk_range⟩
      · cases h
    · cases h
  · cases hx

/-! ### targets of several names -/
def gNilM (ds : List D) (ρ : En) : Option En := match ds with
  | [] => some ρ
  | _ => none
def gConsM (g : D → En → Option En) (r : List D → En → Option En) (ds : List D) (ρ : En) : Option En := match ds with
  | d :: es => (g d ρ).bind fun ρ1 => r es ρ1
  | [] => none
def gTupM (n : Nat) (g : List D → En → Option En) (d : D) (ρ : En) : Option En := match d with
  | .tuple ds => if ds.length = n then g ds ρ else none
  | _ => none
theorem tgs_nil {vs : List Nat} : TGsm K vs gNil gNilM := by
  refine ⟨fun {H0 T0 σ ρ ρ2 H T xs ds} G g h Q q => ?_⟩
  unfold gNilM at h
  split at h
  · cases h
    cases g
    exact ⟨rfl, q σ H G (Same.refl H) rfl⟩
  · cases h
theorem tgs_cons {vs : List Nat} {g : TG} {gs : TGs} {mg : D → En → Option En} {mr : List D → En → Option En} (h1 : TGm K vs g mg) (h2 : TGsm K vs gs mr) : TGsm K vs (gCons g gs) (gConsM mg mr) := by
  refine ⟨fun {H0 T0 σ ρ ρ2 H T xs ds} G g h Q q => ?_⟩
  unfold gConsM at h
  split at h
  · obtain ⟨ρ1, e1, h⟩ := bind_some h
    cases g with
    | cons a b =>
      refine ⟨_, _, rfl, ?_⟩
      refine h1.run G a e1 _ fun σ2 H2 G2 s2 w2 => ?_
      exact h2.run G2 (dpa_mono s2 b) h _ fun σ3 H3 G3 s3 w3 => q σ3 H3 G3 (s2.trans s3) (w3.trans w2)
  · cases h
theorem tg_tup {vs : List Nat} {n : Nat} {gs : TGs} {mr : List D → En → Option En} (h : TGsm K vs gs mr) : TGm K vs (gTup K n gs) (gTupM n mr) := by
  refine ⟨fun {H0 T0 σ ρ ρ2 H T v d} G g e Q q => ?_⟩
  unfold gTupM at e
  split at e
  · split at e
    · rename_i hn
      obtain ⟨p, xs, rfl, hs, ga⟩ := dp_tup g
      exact ⟨p, xs, rfl, sqt_ov G.dis hs, by rw [dpa_len ga]; exact hn, h.run G ga e Q q⟩
    · cases e
  · cases e

/-! ### comprehensions -/
def wipeM (ρ : En) : List Nat → En
  | [] => ρ
  | v :: vs => (wipeM ρ vs).set v none
def coll (g : D → En → Option En) (c : En → Option Bool) (e : En → Option D) (ρ : En) : List D → Option (List D)
  | [] => some []
  | d :: ds => (g d ρ).bind fun ρ1 => (c ρ1).bind fun b => if b = true then (e ρ1).bind fun x => (coll g c e ρ ds).map fun r => x :: r else coll g c e ρ ds
def mLc (it : En → Option (List D)) (g : D → En → Option En) (c : En → Option Bool) (e : En → Option D) (vs : List Nat) : En → Option (List D) := fun ρ => (it ρ).bind fun ds => if ds.length ≤ cap then coll g c e (wipeM ρ vs) ds else none
def mYes : En → Option Bool := fun _ => some true
theorem et_yes : TTm K tYes mYes := ⟨fun {H0 T0 σ ρ H T b} G h Q q => by cases h; exact q H (Same.refl H) G.dis⟩
theorem Good.drop {K : PySem.W.Frag} {H0 H : Hp} {T0 T : Ov} {σ : L2.St} {ρ : En} (i : Nat) (G : Good K H0 T0 σ ρ H T) : Good K H0 T0 (σ.set i none) (ρ.set i none) H T := by
  refine ⟨by rw [List.length_set, List.length_set]; exact G.len, fun j x h => ?_, fun j x h => ?_, fun j k ds es p h1 h2 h3 h4 => ?_, G.dis, G.ext, G.ex, exc_set G.exc (fun _ z => by cases z)⟩
  · rcases get_set h with ⟨_, q, _⟩ | ⟨e, q⟩
    · cases q
    · obtain ⟨w, a, b⟩ := G.val j x q
      exact ⟨w, by rw [List.getElem?_set_ne (Ne.symm e)]; exact a, b⟩
  · rcases get_set h with ⟨_, q, _⟩ | ⟨e, q⟩
    · cases q
    · obtain ⟨p, xs, a, b⟩ := G.own j x q
      exact ⟨p, xs, by rw [List.getElem?_set_ne (Ne.symm e)]; exact a, b⟩
  · rcases get_set h1 with ⟨_, q, _⟩ | ⟨e1, q1⟩
    · cases q
    · rcases get_set h2 with ⟨_, q, _⟩ | ⟨e2, q2⟩
      · cases q
      · rw [List.getElem?_set_ne (Ne.symm e1)] at h3
        rw [List.getElem?_set_ne (Ne.symm e2)] at h4
        exact G.inj j k ds es p q1 q2 h3 h4
theorem Good.wipe {K : PySem.W.Frag} {H0 H : Hp} {T0 T : Ov} {σ : L2.St} {ρ : En} (G : Good K H0 T0 σ ρ H T) : ∀ vs : List Nat, Good K H0 T0 (wipe σ vs) (wipeM ρ vs) H T
  | [] => G
  | v :: vs => (Good.wipe G vs).drop v
theorem wipe_wipe (σ : L2.St) (vs : List Nat) : wipe (wipe σ vs) vs = wipe σ vs := by
  apply List.ext_getElem?
  intro i
  have key : ∀ (vs : List Nat) (σ : L2.St), (wipe σ vs)[i]? = if i ∈ vs then (if i < σ.length then some none else none) else σ[i]? := by
    intro vs
    induction vs with
    | nil => intro σ; simp [L2.wipe]
    | cons v r ih =>
      intro σ
      show ((L2.wipe σ r).set v none)[i]? = _
      by_cases h : v = i
      · subst h
        rw [List.getElem?_set]
        simp [wipe_length]
      · rw [List.getElem?_set_ne h, ih σ]
        have : (i ∈ v :: r) ↔ i ∈ r := by simp [Ne.symm h]
        simp only [this]
  rw [key vs (wipe σ vs), key vs σ, wipe_length]
  split <;> rfl
/-- one list more of one's own, known to no slot -/
theorem Good.more {K : PySem.W.Frag} {H0 H : Hp} {T0 T : Ov} {σ : L2.St} {ρ : En} {p : Addr} {xs : List V} (G : Good K H0 T0 σ ρ H T) (hp : ov H T p = none) : Good K H0 T0 σ ρ H (put T p xs) := by
  obtain ⟨hT, hH⟩ := ov_free hp
  have ne : ∀ a ys, T a = some ys → a ≠ p := fun a ys e z => by rw [z, hT] at e; cases e
  exact ⟨G.len, G.val, fun i ds h => let ⟨r, ys, a, b, c⟩ := G.own i ds h; ⟨r, ys, a, by rw [put_ne (ne r ys b)]; exact b, c⟩, G.inj, dis_put G.dis hH, fun a ys e => by rw [put_ne (ne a ys (G.ext a ys e))]; exact G.ext a ys e, G.ex, G.exc⟩
theorem put_put {T : Ov} {p : Addr} {xs ys : List V} : put (put T p xs) p ys = put T p ys := by
  funext a
  unfold put
  split <;> rfl
theorem fl_lc {wi : TI} {g : TG} {tt : TT} {te : TE} {vs : List Nat} {mi : En → Option (List D)} {mg : D → En → Option En} {mc : En → Option Bool} {me : En → Option D}
    (hi : IT K wi mi) (hg : TGm K vs g mg) (ht : TTm K tt mc) (he : ET K te me) : FL K (tLc wi g tt te vs) (mLc mi mg mc me vs) := by
  refine ⟨fun {H0 T0 σ ρ H T out} G h Q q => ?_⟩
  obtain ⟨ds, hd, h⟩ := bind_some h
  split at h
  · rename_i hz
    refine hi.run G hd _ fun J Hm s1 d1 w => ?_
    intro Dl hD
    obtain ⟨nT, nH⟩ := ov_free hD
    have G1 := (G.mono s1 d1).wipe vs
    refine ⟨fun i m Hc => i ≤ ds.length ∧ m = ds.length - i ∧ ∃ H1 acc as r, Hc = ov H1 (put T Dl acc) ∧ Same Hm H1 ∧ Dis H1 T ∧ H1 Dl = none ∧ DpAll K H1 acc as ∧ acc.length ≤ i ∧ coll mg mc me (wipeM ρ vs) (ds.drop i) = some r ∧ out = as ++ r,
      ⟨ds.length, Nat.zero_le _, rfl, Hm, [], [], out, by rw [upd_put], Same.refl Hm, d1, nH, .nil, Nat.le_refl _, h, rfl⟩, ?_⟩
    rintro i m Hc ⟨hil, rfl, H1, acc, as, r, rfl, sm, dis, nD, ga, hac, hc, eo⟩
    have dput : Dis H1 (put T Dl acc) := dis_put dis nD
    by_cases hlt : i < ds.length
    · have hge : ds[i]? = some ds[i] := List.getElem?_eq_getElem hlt
      rw [List.drop_eq_getElem_cons hlt] at hc
      obtain ⟨ρ2, h2, hc⟩ := bind_some hc
      obtain ⟨b, hb, hc⟩ := bind_some hc
      refine .inr ⟨w.go i sm dput hlt, fun Hc' => ∃ H1 acc as r, Hc' = ov H1 (put T Dl acc) ∧ Same Hm H1 ∧ Dis H1 T ∧ H1 Dl = none ∧ DpAll K H1 acc as ∧ acc.length ≤ i + 1 ∧ coll mg mc me (wipeM ρ vs) (ds.drop (i + 1)) = some r ∧ out = as ++ r,
        fun Hc' ⟨H1, acc, as, r, a1, a2, a3, a4, a5, a6, a7, a8⟩ => ⟨ds.length - (i + 1), by omega, by omega, rfl, H1, acc, as, r, a1, a2, a3, a4, a5, a6, a7, a8⟩, fun x Hc' y => ?_⟩
      obtain ⟨H2, rfl, s2, d2, p2⟩ := w.yld i sm dput hge y
      have fr : ∀ {H' : Hp}, Dis H' (put T Dl acc) → Dis H' T ∧ H' Dl = none := fun {H'} d => ⟨⟨fun a xs e => by
        by_cases z : a = Dl
        · rw [z, nT] at e; cases e
        · exact d a xs (by rw [put_ne z]; exact e), d.tab⟩, d Dl acc put_same⟩
      have G2 : Good K H0 T0 (L2.wipe σ vs) (wipeM ρ vs) H2 (put T Dl acc) := (((G.mono s1 d1).wipe vs).more hD).mono (sm.trans s2) d2
      refine hg.run G2 p2 h2 _ fun σ3 H3 G3 s3 w3 => ⟨by rw [w3, wipe_wipe], ?_⟩
      refine ht.run G3 hb _ fun H4 s4 d4 => ?_
      have G4 := G3.mono s4 d4
      cases b with
      | true =>
        rw [if_pos rfl] at hc ⊢
        obtain ⟨z, hz2, hc⟩ := bind_some hc
        obtain ⟨r', hr, hc⟩ := map_some hc
        refine he.run G4 hz2 _ fun v H5 s5 d5 p5 => ?_
        obtain ⟨dT, dn⟩ := fr d5
        refine ⟨acc, ov_own put_same, cap_lt (Nat.le_trans hac (Nat.le_trans (Nat.le_of_lt hlt) hz)), H5, acc ++ [v], as ++ [z], r', by rw [upd_put, put_put], (sm.trans s2).trans ((s3.trans s4).trans s5), dT, dn, dpa_snoc (dpa_mono (s2.trans ((s3.trans s4).trans s5)) ga) p5, by rw [List.length_append, List.length_singleton]; omega, hr, ?_⟩
        rw [eo, ← hc, List.append_assoc]
        rfl
      | false =>
        rw [if_neg Bool.false_ne_true] at hc ⊢
        obtain ⟨dT, dn⟩ := fr d4
        exact ⟨H4, acc, as, r, rfl, (sm.trans s2).trans (s3.trans s4), dT, dn, dpa_mono (s2.trans (s3.trans s4)) ga, by omega, hc, eo⟩
    · have e : i = ds.length := by omega
      subst e
      rw [List.drop_length] at hc
      cases hc
      rw [List.append_nil] at eo
      subst eo
      refine .inl ⟨w.stop sm dput, ?_⟩
      rw [← upd_put]
      have hfree : ov H1 T Dl = none := by rw [ov_none nT]; exact nD
      exact q Dl acc H1 (s1.trans sm) dis hfree ga
  · cases h

/-! ### a def -/
def start0 (N : Nat) (ds : List D) : En := ds.map (fun d => some (.val d)) ++ List.replicate (N - ds.length) none
def mDef (N : Nat) (b : En → Option Fl) (ds : List D) : Option D := (b (start0 N ds)).bind fun f => match f with
  | .rt d => some d
  | .nx _ => some .none
  | _ => none
theorem good_start {N : List Str} {vs : List V} {ds : List D} {H : Hp} {T : Ov} (h : DpAll K H vs ds) (d : Dis H T) : Good K H T (start N vs) (start0 N.length ds) H T := by
  have hl := dpa_len h
  have at0 : ∀ (i : Nat) (s : Sl), (start0 N.length ds)[i]? = some (some s) → ∃ d, ds[i]? = some d ∧ s = .val d := by
    intro i s e
    unfold start0 at e
    by_cases hi : i < ds.length
    · rw [List.getElem?_append_left (by simpa using hi), List.getElem?_map, List.getElem?_eq_getElem hi] at e
      cases e
      exact ⟨ds[i], List.getElem?_eq_getElem hi, rfl⟩
    · rw [List.getElem?_append_right (by simpa using hi), List.getElem?_replicate] at e
      split at e <;> cases e
  refine ⟨?_, fun i x e => ?_, fun i x e => ?_, fun i j as bs p e1 e2 _ _ => ?_, d, fun a xs e => e, Same.refl H, fun i c e => ?_⟩
  · unfold L2.start start0
    rw [List.length_append, List.length_append, List.length_map, List.length_map, List.length_replicate, List.length_replicate, hl]
  · obtain ⟨d, hd, es⟩ := at0 i _ e
    cases es
    obtain ⟨v, hv, g⟩ := dpa_get h hd
    refine ⟨v, ?_, g⟩
    unfold L2.start
    rw [List.getElem?_append_left (by rw [List.length_map]; exact (List.getElem?_eq_some_iff.mp hv).1), List.getElem?_map, hv]
    rfl
  · obtain ⟨d, hd, es⟩ := at0 i _ e
    cases es
  · obtain ⟨d, hd, es⟩ := at0 i _ e1
    cases es
  · obtain ⟨d, hd, es⟩ := at0 i _ e
    cases es
/-- a heap with lists of one's own on it, told apart again -/
theorem under {T0 : Ov} {X : Hp} (tab : LamX.Tabs TabQ.tabs X) (hT : ∀ a xs, T0 a = some xs → X a = some (.lst xs)) : ∃ H', X = ov H' T0 ∧ Dis H' T0 ∧ ∀ a o, X a = some o → T0 a = none → H' a = some o := by
  have key : ∀ a o, X a = some o → T0 a = none → (match T0 a with | some _ => none | none => X a) = some o := fun a o h q => by
    rw [q]; exact h
  have no : ∀ a o, X a = some o → (∀ xs, o ≠ .lst xs) → T0 a = none := fun a o h n => by
    cases q : T0 a with
    | none => rfl
    | some xs => rw [hT a xs q] at h; exact absurd (Option.some.inj h).symm (n xs)
  refine ⟨fun a => match T0 a with | some _ => none | none => X a, ?_, ⟨fun a xs h => ?_, fun p hp => ?_⟩, key⟩
  · funext a
    cases q : T0 a with
    | some xs => rw [ov_own q, hT a xs q]
    | none =>
      rw [ov_none q]
      show X a = match T0 a with | some _ => none | none => X a
      rw [q]
  · show (match T0 a with | some _ => none | none => X a) = none
    rw [h]
  · obtain ⟨ps, h1, h2, h3⟩ := tab p hp
    refine ⟨ps, key _ _ h1 (no _ _ h1 (fun _ => HO.noConfusion)), h2, fun pos cv hc => ?_⟩
    obtain ⟨c, e1, e2⟩ := h3 pos cv hc
    exact ⟨c, e1, key _ _ e2 (no _ _ e2 (fun _ => HO.noConfusion))⟩
/-- the caller's lists out of the way again -/
theorem back {H0 H : Hp} {T0 T : Ov} (d0 : Dis H0 T0) (s : Same H0 H) (d : Dis H T) (e : Ext T0 T) : ∃ H', ov H T = ov H' T0 ∧ Same H0 H' ∧ Dis H' T0 ∧ Same H H' := by
  obtain ⟨H', e1, d1, k⟩ := under (T0 := T0) (X := ov H T) (d.tab.ext (raw_ov d)) fun a xs h => ov_own (e a xs h)
  refine ⟨H', e1, fun a o h n => ?_, d1, fun a o h _ => ?_⟩
  · refine k a o (same_ov d a o (s a o h n) n) ?_
    cases q : T0 a with
    | none => rfl
    | some xs => have := d0 a xs q; rw [h] at this; cases this
  · refine k a o (raw_ov d a o h) ?_
    cases q : T0 a with
    | none => rfl
    | some xs => have := d a xs (e a xs q); rw [h] at this; cases this
theorem def_ok {P : Program} {w : World} {mg : Str → Option Value} {base : Heap} {x qual : Str} {st : Stmt} {f : Addr} {fd : FuncData} {N ps : List Str} {k : Nat} {mb : En → Option Fl} (F : Fun K x qual st f fd) (S : FnScope N ps (defScope st))
    (hbody : ∀ (cdv : Value) (A : Around) (outer : List Env) (s : Shared) (H : Hp) (E : XK), Room k (A.deeper (envOfC qual (defScope st) s.heap.objs.size f cdv)) →
      ∃ t, PSs (cxOf CX0 P w K mg base N qual (defScope st) f cdv A outer s H E).nox (defBody st) t ∧ TSm K t mb) : FnOk P w K mg base CX0 (k + 1) f fd ps (spM K ps.length (mDef N.length mb)) := by
  refine F.ok S (fun vs H Q E h => ?_) (fun cdv A outer s Hx vs Q E hr h => ?_)
  · obtain ⟨ds, d, H, T, g, hn, _⟩ := h
    rw [dpa_len g, hn]
  · obtain ⟨ds, d, H, T, g, hn, hm, rfl, dis, q⟩ := h
    obtain ⟨t, p, m⟩ := hbody cdv A outer s (ov H T) E hr
    refine ⟨t, p, ?_⟩
    obtain ⟨fl, hf, hm⟩ := bind_some hm
    refine m.run (good_start g dis) hf _ ?_
    cases fl with
    | rt d' =>
      cases hm
      intro v H' T' s1 d1 e1 p1
      obtain ⟨H2, e2, s2, d2, s3⟩ := back dis s1 d1 e1
      show Q v (ov H' T')
      rw [e2]
      exact q v H2 s2 d2 (dp_mono s3 p1)
    | nx ρ =>
      cases hm
      intro σ' H' T' G'
      obtain ⟨H2, e2, s2, d2, s3⟩ := back dis G'.ex G'.dis G'.ext
      show Q .non (ov H' T')
      rw [e2]
      exact q _ H2 s2 d2 .non
    | bk ρ => cases hm
    | ct ρ => cases hm
end
end DD

set_option Elab.async false
set_option linter.all false
set_option maxRecDepth 100000
set_option maxHeartbeats 4000000
namespace DD
variable [TabQ] [ExQ]
open PySem PySem.Spec PyProof.Rows L2
def dLt : D → D → Option D := dCmp fun i j => decide (i < j)
def dLe : D → D → Option D := dCmp fun i j => decide (i ≤ j)
def dGt : D → D → Option D := dCmp fun i j => decide (j < i)
def dGe : D → D → Option D := dCmp fun i j => decide (j ≤ i)
def lim (n : Nat) (m : List D → Option D) : List D → Option D := fun ds => if ds.length = n then m ds else none
def mRange1 (m : En → Option (List D)) : En → Option (List D) := mRange fun ρ => (m ρ).bind fun ds => if ds.length = 1 then some ds else none
def mRange2 (m : En → Option (List D)) : En → Option (List D) := mRange fun ρ => (m ρ).bind fun ds => if ds.length = 2 then some ds else none
def mIfL (c : En → Option Bool) (a b : En → Option (List D)) : En → Option (List D) := fun ρ => (c ρ).bind fun x => if x = true then a ρ else b ρ
def mStar (a : En → Option D) (b : En → Option (List D)) : En → Option (List D) := fun ρ => (a ρ).bind fun x => match x with
  | .list ds => (b ρ).map fun r => ds ++ r
  | .tuple ds => (b ρ).map fun r => ds ++ r
  | _ => none
def gLstM (n : Nat) (g : List D → En → Option En) (d : D) (ρ : En) : Option En := match d with
  | .list ds => if ds.length = n then g ds ρ else none
  | _ => none
def sPar3 (i j l : Nat) (a b c : En → Option D) : En → Option Fl := fun ρ => (a ρ).bind fun x => (b ρ).bind fun y => (c ρ).map fun z => .nx (((ρ.set i (some (.val x))).set j (some (.val y))).set l (some (.val z)))
def mCatL (a b : En → Option (List D)) : En → Option (List D) := fun ρ => (a ρ).bind fun x => (b ρ).bind fun y => if x.length + y.length ≤ cap then some (x ++ y) else none
section
variable {K : PySem.W.Frag} {te ta tb tc : TE} {ma mb mc : En → Option D}
theorem rd_lt' : RD K (rI0 fun i j => .bl (decide (i < j))) dLt := rd_lt
theorem rd_le' : RD K (rI0 fun i j => .bl (decide (i ≤ j))) dLe := rd_le
theorem rd_gt' : RD K (rI0 fun i j => .bl (decide (j < i))) dGt := rd_gt
theorem rd_ge' : RD K (rI0 fun i j => .bl (decide (j ≤ i))) dGe := rd_ge
theorem hu65 {A : Around} {k : Nat} (hr : Room k A) : A.units + 65 < cLine := by have := hr.un; omega
theorem pt_tr {X : Cx} {a : Expr} {ta : TE} (ha : PE X a ta) (he : ∀ whole, isTrue a X.env whole = (do let v ← whole; standAt a.pos; holding [v] (truthy v))) : PT X a (tTru X.K ta) := pt_truth ha he
theorem ev_call' {n : Nat} {mf : List D → Option D} {t : TA} {m : En → Option (List D)} {E : XK} (ha : TAm K t m) : ET K (tCall (spM K n mf) [] E t) (mCall (lim n mf) m) := ev_call ha
theorem it_range1' {t : TA} {m : En → Option (List D)} (ha : TAm K t m) : IT K (iRng1 t) (mRange1 m) := it_range1 ha
theorem it_range2' {t : TA} {m : En → Option (List D)} (ha : TAm K t m) : IT K (iRng2 t) (mRange2 m) := it_range2 ha
theorem fl_if {tt : TT} {m1 : En → Option Bool} {m2 m3 : En → Option (List D)} (hc : TTm K tt m1) (ha : FL K ta m2) (hb : FL K tb m3) : FL K (tIf tt ta tb) (mIfL m1 m2 m3) := by
  refine ⟨fun {H0 T0 σ ρ H T d} G h Q q => ?_⟩
  obtain ⟨x, hx, h⟩ := bind_some h
  refine hc.run G hx _ fun H1 s1 d1 => ?_
  cases x with
  | true =>
    rw [if_pos rfl] at h ⊢
    exact ha.run (G.mono s1 d1) h _ fun p xs H2 s2 d2 n2 p2 => q p xs H2 (s1.trans s2) d2 n2 p2
  | false =>
    rw [if_neg Bool.false_ne_true] at h ⊢
    exact hb.run (G.mono s1 d1) h _ fun p xs H2 s2 d2 n2 p2 => q p xs H2 (s1.trans s2) d2 n2 p2
theorem ea_star {t : TA} {m : En → Option (List D)} (ha : ET K ta ma) (hr : TAm K t m) : TAm K (StX.tStar K ta t) (mStar ma m) := by
  refine ⟨fun {H0 T0 σ ρ H T ds} G h Q q => ?_⟩
  obtain ⟨x, hx, h⟩ := bind_some h
  refine ha.run G hx _ fun v H1 s1 d1 p1 => ?_
  split at h
  · obtain ⟨r, hr2, h⟩ := map_some h
    subst h
    obtain ⟨p, xs, rfl, hs, g⟩ := dp_lst p1
    refine ⟨p, xs, rfl, .inr (sql_ov d1 hs), ?_⟩
    exact hr.run (G.mono s1 d1) hr2 _ fun vs H2 s2 d2 p2 => q _ H2 (s1.trans s2) d2 (dpa_append (dpa_mono s2 g) p2)
  · obtain ⟨r, hr2, h⟩ := map_some h
    subst h
    obtain ⟨p, xs, rfl, hs, g⟩ := dp_tup p1
    refine ⟨p, xs, rfl, .inl (sqt_ov d1 hs), ?_⟩
    exact hr.run (G.mono s1 d1) hr2 _ fun vs H2 s2 d2 p2 => q _ H2 (s1.trans s2) d2 (dpa_append (dpa_mono s2 g) p2)
  · cases h
theorem st_par3 {i j l : Nat} (ha : ET K ta ma) (hb : ET K tb mb) (hc : ET K tc mc) : TSm K (tPar3 i j l (tCons ta (tCons tb (tCons tc tNil)))) (sPar3 i j l ma mb mc) := by
  refine ⟨fun {H0 T0 σ ρ H T f} G h E q => ?_⟩
  obtain ⟨x, hx, h⟩ := bind_some h
  obtain ⟨y, hy, h⟩ := bind_some h
  obtain ⟨z, hz, h⟩ := map_some h
  subst h
  refine ha.run G hx _ fun v H1 s1 d1 p1 => ?_
  refine hb.run (G.mono s1 d1) hy _ fun w H2 s2 d2 p2 => ?_
  refine hc.run (G.mono (s1.trans s2) d2) hz _ fun u H3 s3 d3 p3 => ⟨v, w, u, rfl, ?_⟩
  exact q _ H3 T ((((G.mono ((s1.trans s2).trans s3) d3).set (dp_mono (s2.trans s3) p1)).set (dp_mono s3 p2)).set p3)
end
end DD
namespace DD
variable [TabQ] [ExQ]
open PySem PySem.Spec PyProof.Rows L2
def fuelOf (i : Nat) (ρ : En) : Nat := match ρ[i]? with
  | some (some (.val (.int k))) => k.toNat + 1
  | _ => 1
end DD

set_option Elab.async false
set_option linter.all false
set_option maxRecDepth 100000
set_option maxHeartbeats 4000000
namespace DD
variable [TabQ] [ExQ]
open PySem PySem.Spec PyProof.Rows L2

/-! ### head, *rest = a row -/
section
variable {prog : Program} {w : World} {A : Around} {E : Value → Shared → Prop} {s : Shared}
theorem star_items {t : Addr} {items : Array Value} {Q : List Value → Shared → Prop} (hl : IsTup s.heap t items) (hh : A.handled = none) (h1 : 1 ≤ items.size) (hz : items.size ≤ sizeLine)
    (h : ∀ (h' : Heap) (tk : Nat), (∀ b o, s.heap.get? b = some o → h'.get? b = some o) → Q [items.toList.headD .none, .ref h'.objs.size] { s with heap := h'.push { cls := .type "list", data := .seq (items.toList.drop 1).toArray }, toks := tk }) :
    wpAny (model prog w) A (unpackItems (.ref t) 2 (some 1)) Q E s := by
  have hne : t ≠ s.heap.objs.size := by
    obtain ⟨o, ho, _⟩ := hl
    exact Nat.ne_of_lt (Heap.lt_size ho)
  unfold unpackItems notIterableAtAll
  refine wpAny_bind (wpAny_bind (wpAny_specialOf hl.typeIs slot_tuple_iter.lookup (wpAny_pure ?_)))
  simp only [Option.isNone_some, Bool.false_eq_true, if_false]
  refine wpAny_bind (wpAny_holding (iter_tuple hl ?_))
  refine wpAny_bind (wpAny_holding (draw_tuple hne 1 0 _ _ ⟨_, Heap.get?_push_size _ rfl, rfl, rfl⟩ (hl.push _) (by omega) fun g1 st1 same1 => ?_))
  have tup1 : IsTup g1 t items := (hl.push _).extBut same1.extBut hne
  have it1 := st1
  rw [Nat.zero_add] at it1
  obtain ⟨oi, hoi, _⟩ := id it1
  obtain ⟨ot, hot, _⟩ := id tup1
  have hd : List.take 1 (List.drop 0 items.toList) = [items.toList.headD .none] := by
    cases e : items.toList with
    | nil =>
      have hz0 : items.size = 0 := by simpa using congrArg List.length e
      omega
    | cons x r => rfl
  rw [hd]
  rw [if_neg (by show ¬ (1 < 1); omega)]
  refine wpAny_bind (wpAny_holding (PySem.W.kun_collect (s := { s with heap := g1 }) (T := "tuple_iterator") (.inr (.inr (.inr rfl))) (Walks.tuple (A := A.in1) hh s.heap.objs.size t hne items) (fun j u st => st.1.typeIs) (k := 1) h1 ⟨it1, tup1⟩ (Heap.lt_size hoi) (Heap.lt_size hot) (fun g2 tk keep2 => ?_) hz))
  have keep : ∀ b o, s.heap.get? b = some o → g2.get? b = some o := fun b o e => by
    have nb : b ≠ s.heap.objs.size := Nat.ne_of_lt (Heap.lt_size e)
    exact keep2 b o nb (same1.extBut b o nb (Heap.get?_push_of_some _ e))
  have len : (items.toList.drop 1).length = items.size - 1 := by rw [List.length_drop, Array.length_toList]
  show wpAny _ _ (if (items.toList.drop 1).length < 2 - 1 - 1 then _ else _) _ _ _
  rw [if_neg (by omega)]
  show wpAny _ _ (newList ((items.toList.drop 1).take ((items.toList.drop 1).length - (2 - 1 - 1))) >>= fun d => pure ([items.toList.headD .none] ++ [d] ++ (items.toList.drop 1).drop ((items.toList.drop 1).length - (2 - 1 - 1)))) _ _ _
  have e1 : (items.toList.drop 1).take ((items.toList.drop 1).length - (2 - 1 - 1)) = items.toList.drop 1 := List.take_of_length_le (by omega)
  have e2 : (items.toList.drop 1).drop ((items.toList.drop 1).length - (2 - 1 - 1)) = [] := List.drop_of_length_le (by omega)
  rw [e1, e2]
  refine wpAny_bind (wpAny_newList ?_ (by rw [len]; omega))
  exact wpAny_pure (h g2 tk keep)
end
/-- head, *rest = a tuple -/
def gHdRest (K : PySem.W.Frag) (g1 g2 : TG) : TG := fun v σ H Q => ∃ a x xs, v = .ref a ∧ SqT K H a (x :: xs) ∧ ∀ p, H p = none → g1 x σ (upd H p (.lst xs)) fun σ' H' => g2 (.ref p) σ' H' Q
theorem pg_headRest {X : Cx} {e1 e2 : Expr} {g1 g2 : TG} {k : Nat} {p1 pos : Pos} (hc : X.calm = true) (h1 : PG X e1 g1) (h2 : PG X e2 g2)
    (ha : assignEach [e1, .Starred e2 p1] X.env = [(false, assign e1 X.env), (true, assign e2 X.env)] := by rfl) : PG X (.Tuple [e1, .Starred e2 p1] k pos) (gHdRest X.K g1 g2) := by
  refine ⟨fun pins s σ H v u Q I r hw => ?_⟩
  obtain ⟨a, x, xs, e, hq, hw⟩ := hw
  subst e
  cases r
  obtain ⟨its, rv, ht, hz⟩ := I.tuple hq
  rw [PyProof.Rows.assign_Tuple]
  refine wpAny_bind (wpAny_standAt ?_)
  unfold unpack
  rw [ha]
  have hl := rv.length
  refine wpAny_bind (wpAny_holding (star_items ht (I.ok.hd hc) (by rw [List.size_toArray, ← hl]; simp) (by rw [List.size_toArray, ← hl]; exact hz) fun h' tk kp => ?_))
  cases rv with
  | cons r1 r2 =>
    rename_i u1 us
    have I1 : Inv X pins σ H { s with heap := h', toks := tk } := I.kept kp
    have nf : H h'.objs.size = none := I1.hok.fresh (Nat.le_refl _)
    have I2 : Inv X pins σ (upd H h'.objs.size (.lst xs)) { s with heap := h'.push { cls := .type "list", data := .seq (us : List Value).toArray }, toks := tk } :=
      I1.laid (a := h'.objs.size) (o := .lst xs) (h' := h'.push { cls := .type "list", data := .seq (us : List Value).toArray }) (t' := tk) (fun b o e => Heap.get?_push_of_some _ e) (Nat.le_refl _) ⟨Nat.le_trans (Nat.le_succ _) hz, us, 0, r2, Heap.get?_push_size _ rfl⟩
    show wpAny _ _ (assignInOrder [assign e1 X.env, assign e2 X.env] [u1, .ref h'.objs.size]) _ _ _
    refine assignInOrder_cons (thn (h1.run pins _ σ _ x u1 _ I2 r1 (hw _ nf)) fun _ s3 ⟨σ3, H3, I3, q3⟩ => ?_)
    refine assignInOrder_cons (thn (h2.run pins s3 σ3 H3 (.ref h'.objs.size) _ _ I3 rfl q3) fun _ s4 q4 => ?_)
    exact assignInOrder_nil q4
def gHeadRest (m1 m2 : D → En → Option En) (d : D) (ρ : En) : Option En := match d with
  | .tuple (x :: xs) => (m1 x ρ).bind fun ρ1 => m2 (.list xs) ρ1
  | _ => none
section
variable {K : PySem.W.Frag}
theorem tg_headRest {vs : List Nat} {g1 g2 : TG} {m1 m2 : D → En → Option En} (h1 : TGm K vs g1 m1) (h2 : TGm K vs g2 m2) : TGm K vs (gHdRest K g1 g2) (gHeadRest m1 m2) := by
  refine ⟨fun {H0 T0 σ ρ ρ2 H T v d} G g h Q q => ?_⟩
  unfold gHeadRest at h
  split at h
  · rename_i y ys
    obtain ⟨ρ1, e1, h⟩ := bind_some h
    obtain ⟨a, xs, rfl, hs, ga⟩ := dp_tup g
    cases ga with
    | cons gx gr =>
      rename_i x xs
      refine ⟨a, _, _, rfl, sqt_ov G.dis hs, fun p np => ?_⟩
      obtain ⟨nT, nH⟩ := ov_free np
      rw [upd_ov nT]
      have sn : Same H (upd H p (.lst xs)) := same_new nH
      refine h1.run (G.mono sn (dis_upd G.dis nT nH)) (dp_mono sn gx) e1 _ fun σ3 H3 G3 s3 w3 => ?_
      refine h2.run G3 (dp_mono s3 (.lst (SqL.of upd_same) (dpa_mono sn gr))) h _ fun σ4 H4 G4 s4 w4 => ?_
      exact q σ4 H4 G4 ((sn.trans s3).trans s4) (w4.trans w3)
  · cases h
theorem tg_lst {vs : List Nat} {n : Nat} {gs : TGs} {mr : List D → En → Option En} (h : TGsm K vs gs mr) : TGm K vs (gLst K n gs) (gLstM n mr) := by
  refine ⟨fun {H0 T0 σ ρ ρ2 H T v d} G g e Q q => ?_⟩
  unfold gLstM at e
  split at e
  · split at e
    · rename_i hn
      obtain ⟨p, xs, rfl, hs, ga⟩ := dp_lst g
      exact ⟨p, xs, rfl, sql_ov G.dis hs, by rw [dpa_len ga]; exact hn, h.run G ga e Q q⟩
    · cases e
  · cases e
end
end DD

set_option Elab.async false
set_option linter.all false
set_option maxRecDepth 100000
set_option maxHeartbeats 4000000
namespace DD
variable [TabQ] [ExQ]
open PySem PySem.Spec PyProof.Rows L2

/-! ### zip of two, each a list or a tuple (b: it is a tuple) -/
def SqB (b : Bool) (K : PySem.W.Frag) (H : Hp) (a : Addr) (xs : List V) : Prop := if b = true then SqT K H a xs else SqL K H a xs
def HpB (b : Bool) (h : Heap) (a : Addr) (its : Array Value) : Prop := if b = true then h.IsTuple a its else h.IsList a its
def AtB (b : Bool) (h : Heap) (it a : Addr) (i : Nat) : Prop := if b = true then h.IsTupleIter it a i else h.IsListIter it a i
theorem HpB.at {b : Bool} {h h' : Heap} {a : Addr} {its : Array Value} (x : HpB b h a its) (k : ∀ o, h.get? a = some o → h'.get? a = some o) : HpB b h' a its := by
  cases b
  · exact Heap.IsList.at x k
  · exact Heap.IsTuple.at x k
theorem AtB.at {b : Bool} {h h' : Heap} {it a : Addr} {i : Nat} (x : AtB b h it a i) (k : ∀ o, h.get? it = some o → h'.get? it = some o) : AtB b h' it a i := by
  cases b
  · exact Heap.IsListIter.at x k
  · exact Heap.IsTupleIter.at x k
theorem SqB.get {b : Bool} {X : Cx} {pins : List (Addr × Obj)} {σ : L2.St} {H : Hp} {s : Shared} {a : Addr} {xs : List V} (I : Inv X pins σ H s) (h : SqB b X.K H a xs) : ∃ its : List Value, Vals xs its ∧ HpB b s.heap a its.toArray := by
  cases b
  · obtain ⟨its, rv, p, _⟩ := I.list h
    exact ⟨its, rv, p.isList⟩
  · obtain ⟨its, rv, p, _⟩ := I.tuple h
    exact ⟨its, rv, p⟩
theorem SqB.inj {b : Bool} {X : Cx} {pins : List (Addr × Obj)} {σ : L2.St} {H : Hp} {s : Shared} {a : Addr} {xs ys : List V} (I : Inv X pins σ H s) (h : SqB b X.K H a xs) (h' : SqB b X.K H a ys) : xs = ys := by
  cases b
  · exact I.list_inj h h'
  · exact I.tuple_inj h h'
theorem HpB.lt {b : Bool} {h : Heap} {a : Addr} {its : Array Value} (x : HpB b h a its) : a < h.objs.size := by
  cases b
  · obtain ⟨o, ho, _⟩ : h.IsList a its := x
    exact Heap.lt_size ho
  · obtain ⟨o, ho, _⟩ : h.IsTuple a its := x
    exact Heap.lt_size ho
theorem drawsB {prog : Program} {w : World} {A : Around} (b : Bool) (hh : A.handled = none) (it a : Addr) (hne : a ≠ it) (its : Array Value) :
    Draws prog w A it [it, a] its.size (fun i v => its[i]? = some v) (fun i h => AtB b h it a i ∧ HpB b h a its) := by
  cases b
  · exact Draws.list hh it a hne its
  · exact Draws.tuple hh it a hne its
def beB (b : Bool) (a : Addr) : Obj := { cls := .type (if b = true then "tuple_iterator" else "list_iterator"), data := .fields #[.ref a, .int 0 0] }
theorem beginsB (b : Bool) (a : Addr) (its : Array Value) : Begins (.ref a) (beB b a) fun h => HpB b h a its := by
  cases b
  · exact begins_list a its
  · exact begins_tuple a its
theorem beB_at {b : Bool} {h : Heap} {it a : Addr} (e : h.get? it = some (beB b a)) : AtB b h it a 0 := by
  cases b
  · exact ⟨_, e, rfl, rfl⟩
  · exact ⟨_, e, rfl, rfl⟩
theorem atB_obj {b : Bool} {h : Heap} {it a : Addr} {i : Nat} (x : AtB b h it a i) : ∃ o, h.get? it = some o ∧ ∀ v, o.data ≠ .cell v := by
  cases b
  · obtain ⟨o, e, _, d⟩ : h.IsListIter it a i := x
    exact ⟨o, e, fun v q => by rw [d] at q; cases q⟩
  · obtain ⟨o, e, _, d⟩ : h.IsTupleIter it a i := x
    exact ⟨o, e, fun v q => by rw [d] at q; cases q⟩
theorem apartB {b : Bool} {h : Heap} {a it : Addr} {its : Array Value} {i : Nat} (p : HpB b h a its) (q : AtB b h it a i) : a ≠ it := fun e => by
  subst e
  cases b
  · obtain ⟨o, ho, hc1, _⟩ : h.IsList a its := p
    obtain ⟨o', ho', hc2, _⟩ : h.IsListIter a a i := q
    have e := Option.some.inj (ho.symm.trans ho')
    subst e
    exact absurd (hc1.symm.trans hc2) (by decide +kernel)
  · obtain ⟨o, ho, hc1, _⟩ : h.IsTuple a its := p
    obtain ⟨o', ho', hc2, _⟩ : h.IsTupleIter a a i := q
    have e := Option.some.inj (ho.symm.trans ho')
    subst e
    exact absurd (hc1.symm.trans hc2) (by decide +kernel)
def Izz (K : PySem.W.Frag) (b1 b2 : Bool) (a b : Addr) : It :=
  ⟨fun i H => ∃ (xs ys : List V) (x y : V), SqB b1 K H a xs ∧ SqB b2 K H b ys ∧ xs[i]? = some x ∧ ys[i]? = some y,
    fun i H v H' => ∃ T x y, v = .ref T ∧ H T = none ∧ H' = upd H T (.tup [x, y]) ∧ (∀ xs, SqB b1 K H a xs → xs[i]? = some x) ∧ ∀ ys, SqB b2 K H b ys → ys[i]? = some y,
    fun i H => ∃ xs ys : List V, SqB b1 K H a xs ∧ SqB b2 K H b ys ∧ i = min xs.length ys.length⟩
theorem turn_zz {P : Program} {w : World} {K : PySem.W.Frag} {elts : List Expr} {kk : Nat} {tpos : Pos} {b1 b2 : Bool} {a b z TI TO i1 i2 : Addr} (D : ZipSep2 z TI TO i1 i2 [i1, a] [i2, b]) :
    Turn P w K (.Tuple elts kk tpos) (Izz K b1 b2 a b) [z, TI, TO, i1, i2] z (fun i h => IsZip h z TI TO .none ∧ IsTupOf2 h TI (.ref i1) (.ref i2) ∧ (∃ x y, IsTupOf2 h TO x y) ∧ AtB b1 h i1 a i ∧ AtB b2 h i2 b i) where
  mem := by simp
  obj := fun i h st c hc => by
    obtain ⟨hz, hTI, ⟨x, y, hTO⟩, h1, h2⟩ := st
    simp only [List.mem_cons, List.not_mem_nil, or_false] at hc
    rcases hc with rfl | rfl | rfl | rfl | rfl
    · exact ⟨_, hz, fun v q => nomatch q⟩
    · exact ⟨_, hTI, fun v q => nomatch q⟩
    · exact ⟨_, hTO, fun v q => nomatch q⟩
    · exact atB_obj h1
    · exact atB_obj h2
  keep := fun i h h' st k => by
    obtain ⟨hz, hTI, ⟨x, y, hTO⟩, h1, h2⟩ := st
    exact ⟨k z (by simp) _ hz, k TI (by simp) _ hTI, ⟨x, y, k TO (by simp) _ hTO⟩, h1.at fun o q => k i1 (by simp) o q, h2.at fun o q => k i2 (by simp) o q⟩
  item := by
    intro X hP hw hK hc i pins s σ H E I hf st hg
    subst hP hw hK
    obtain ⟨hz, hTI, ⟨x0, y0, hTO⟩, h1, h2⟩ := st
    obtain ⟨xs, ys, x, y, hqx, hqy, hx, hy⟩ := hg
    obtain ⟨its, rv, p⟩ := hqx.get I
    obtain ⟨its2, rv2, p2⟩ := hqy.get I
    obtain ⟨u, hu, ru⟩ := rv.get hx
    obtain ⟨u2, hu2, ru2⟩ := rv2.get hy
    have hzl : z < s.heap.objs.size := Heap.lt_size hz
    have na : a ≠ i1 := apartB p h1
    have nb : b ≠ i2 := apartB p2 h2
    have hh : X.A.in1.handled = none := I.ok.hd hc
    have j1 : i < its.toArray.size := by obtain ⟨q, _⟩ := List.getElem?_eq_some_iff.mp hu; simpa using q
    have j2 : i < its2.toArray.size := by obtain ⟨q, _⟩ := List.getElem?_eq_some_iff.mp hu2; simpa using q
    refine wpAny_pyNext_zipD2_item D (drawsB b1 hh i1 a na its.toArray) (drawsB b2 hh i2 b nb its2.toArray) hz hTI hTO ⟨h1, p⟩ ⟨h2, p2⟩ j1 j2 fun x1 x2 h' tk e1 e2 z' TO' h1' h2' hT hsz hk => ?_
    have e3 : x1 = u := by
      have : its.toArray[i]? = some u := by simpa using hu
      rw [this] at e1; exact (Option.some.inj e1).symm
    have e4 : x2 = u2 := by
      have : its2.toArray[i]? = some u2 := by simpa using hu2
      rw [this] at e2; exact (Option.some.inj e2).symm
    subst e3 e4
    refine ⟨_, rfl, wpAny_letOwnedTupleGo_zip (s := { s with heap := h', toks := tk }) z' fun h'' z'' sb => ?_⟩
    have hT2 : h''.get? s.heap.objs.size = some { cls := .type "tuple", data := .seq #[x1, x2] } := (sb.2 _ (Nat.ne_of_gt hzl)).trans hT
    have new : ObjOk X.prog X.w (upd H s.heap.objs.size (.tup [x, y])) h'' s.heap.objs.size (.tup [x, y]) :=
      ⟨by show 2 ≤ sizeLine; decide, [x1, x2], .cons ru (.cons ru2 .nil), ⟨_, hT2, rfl, _, rfl⟩⟩
    have I1 : Inv X pins σ (upd H s.heap.objs.size (.tup [x, y])) { s with heap := h'', toks := tk } :=
      I.turnedNew (t' := tk) (ch := [z, TI, TO, i1, i2]) (fun c o hb q => (sb.2 c (fun q' => hb (by simp [q']))).trans (hk c o (fun q' => hb (by simp [q'])) (fun q' => hb (by simp [q'])) (fun q' => hb (by simp [q'])) (fun q' => hb (by simp [q'])) q)) hf (Nat.le_refl _) new
    refine ⟨.ref s.heap.objs.size, _, I1, rfl, ⟨_, x, y, rfl, I.hok.fresh (Nat.le_refl _), rfl, fun l hl => by rw [hl.inj I hqx]; exact hx, fun l hl => by rw [hl.inj I hqy]; exact hy⟩, ⟨z'', ?_, ⟨x1, x2, ?_⟩, ?_, ?_⟩, fun c hcm => ?_⟩
    · exact (sb.2 _ D.TIz).trans (hk _ _ D.TIz D.TITO D.TIi1 D.TIi2 hTI)
    · exact (sb.2 _ D.TOz).trans TO'
    · exact h1'.1.at fun o q => (sb.2 _ D.zi1.symm).trans q
    · exact h2'.1.at fun o q => (sb.2 _ D.zi2.symm).trans q
    · have hlt : c < s.heap.objs.size := by
        obtain ⟨o1, w1, _⟩ := atB_obj h1
        obtain ⟨o2, w2, _⟩ := atB_obj h2
        simp only [List.mem_cons, List.not_mem_nil, or_false] at hcm
        rcases hcm with q | q | q | q | q
        · rw [q]; exact hzl
        · rw [q]; exact Heap.lt_size hTI
        · rw [q]; exact Heap.lt_size hTO
        · rw [q]; exact Heap.lt_size w1
        · rw [q]; exact Heap.lt_size w2
      rw [upd_ne (Nat.ne_of_lt hlt)]
      exact (hf c hcm).1
  done := by
    intro X hP hw hK hc i pins s σ H E I hf st hg
    subst hP hw hK
    obtain ⟨hz, hTI, ⟨x0, y0, hTO⟩, h1, h2⟩ := st
    obtain ⟨xs, ys, hqx, hqy, hend⟩ := hg
    obtain ⟨its, rv, p⟩ := hqx.get I
    obtain ⟨its2, rv2, p2⟩ := hqy.get I
    have l1 := rv.length
    have l2 := rv2.length
    have na : a ≠ i1 := apartB p h1
    have nb : b ≠ i2 := apartB p2 h2
    have hh : X.A.in1.handled = none := I.ok.hd hc
    refine wpAny_pyNext_zipD2_end D (drawsB b1 hh i1 a na its.toArray) (drawsB b2 hh i2 b nb its2.toArray) hz hTI hTO ⟨h1, p⟩ ⟨h2, p2⟩ (by simp; omega) (by simp; omega) (by simp; omega)
      fun h' tk hk => ⟨rfl, I.turnedL (t' := tk) (ch := [z, TI, TO, i1, i2]) (fun c o hb q => hk c o (fun q' => hb (by simp [q'])) (fun q' => hb (by simp [q'])) (fun q' => hb (by simp [q'])) (fun q' => hb (by simp [q'])) q) hf⟩
  self := fun A i s Q E st h => wpAny_pyIter_zip st.1 h
def iZz (K : PySem.W.Frag) (ta : TA) : TI := fun σ H R => ta σ H fun vs H1 => ∃ a b xs ys b1 b2, vs = [.ref a, .ref b] ∧ SqB b1 K H1 a xs ∧ SqB b2 K H1 b ys ∧ R (Izz K b1 b2 a b) H1
theorem pi_zipX {X : Cx} {e e2 : Expr} {ta : TA} {p pos tpos : Pos} {elts : List Expr} {kk : Nat} (hg : Gl X "zip") (hm : X.mg "zip" = none) (ha : PA X [e, e2] ta)
    (hs : starEach [e, e2] X.env = (false, eval e X.env) :: starEach [e2] X.env := by rfl) (hpl : (backTo pos (starEach [e2] X.env)).any (·.1) = false := by rfl) :
    PI X (.Tuple elts kk tpos) (.Call (.Name "zip" p) [e, e2] [] pos) (iZz X.K ta) := by
  refine ⟨fun pins s σ H R I h => ?_⟩
  refine Call_ (ld_blt I hg hm PyProof.Rows.boot_zip (PyProof.Rows.callWith_type1 (thn (ha.run pos pins s σ H _ I h) fun us s1 ⟨vs, H1, I1, r1, q1⟩ => ?_) hs hpl))
  obtain ⟨a, b, xs, ys, b1, b2, ex, hqx, hqy, q⟩ := q1
  subst ex
  cases r1 with
  | cons r rr =>
    cases rr with
    | cons r' rr =>
      cases rr
      cases r
      cases r'
      obtain ⟨its, rv, p1⟩ := hqx.get I1
      obtain ⟨its2, rv2, p2⟩ := hqy.get I1
      refine zip_begins2 (beginsB b1 a its.toArray) (beginsB b2 b its2.toArray) p1 p2 fun h' hz hTI hTO g1 g2 hsz hk => wpAny_pyIter_zip hz ?_
      have I2 : Inv X pins σ H1 { s1 with heap := h' } := I1.kept (t' := s1.toks) hk
      have D : ZipSep2 (s1.heap.objs.size + 4) (s1.heap.objs.size + 2) (s1.heap.objs.size + 3) s1.heap.objs.size (s1.heap.objs.size + 1) [s1.heap.objs.size, a] [s1.heap.objs.size + 1, b] :=
        zip_sep2 (fun c hc => by rw [List.mem_singleton.mp hc]; exact p1.lt) (fun c hc => by rw [List.mem_singleton.mp hc]; exact p2.lt)
      refine ⟨s1.heap.objs.size + 4, [s1.heap.objs.size + 4, s1.heap.objs.size + 2, s1.heap.objs.size + 3, s1.heap.objs.size, s1.heap.objs.size + 1], _, _, H1, rfl, I2, turn_zz D, ⟨hz, hTI, ⟨_, _, hTO⟩, beB_at g1, beB_at g2⟩, fun c hcm => ?_, q⟩
      have hle : s1.heap.objs.size ≤ c := by
        simp only [List.mem_cons, List.not_mem_nil, or_false] at hcm
        rcases hcm with e | e | e | e | e
        · rw [e]; exact Nat.le_add_right _ _
        · rw [e]; exact Nat.le_add_right _ _
        · rw [e]; exact Nat.le_add_right _ _
        · exact Nat.le_of_eq e.symm
        · rw [e]; exact Nat.le_add_right _ _
      exact I1.fpOk hle (I1.hok.fresh hle)

def pairs : List D → List D → List D
  | x :: xs, y :: ys => .tuple [x, y] :: pairs xs ys
  | _, _ => []
def seqD : D → Option (Bool × List D)
  | .list xs => some (false, xs)
  | .tuple xs => some (true, xs)
  | _ => none
def mZip (m : En → Option (List D)) : En → Option (List D) := fun ρ => (m ρ).bind fun ds => match ds with
  | [a, b] => (seqD a).bind fun x => (seqD b).map fun y => pairs x.2 y.2
  | _ => none
theorem pairs_len : ∀ xs ys : List D, (pairs xs ys).length = min xs.length ys.length
  | [], _ => by simp [pairs]
  | _ :: _, [] => by simp [pairs]
  | x :: xs, y :: ys => by simp [pairs, pairs_len xs ys]
theorem pairs_get : ∀ {xs ys : List D} {i : Nat} {d : D}, (pairs xs ys)[i]? = some d → ∃ x y, xs[i]? = some x ∧ ys[i]? = some y ∧ d = .tuple [x, y]
  | [], _, _, _, h => by simp [pairs] at h
  | _ :: _, [], _, _, h => by simp [pairs] at h
  | x :: xs, y :: ys, 0, d, h => by simp [pairs] at h; exact ⟨x, y, rfl, rfl, h.symm⟩
  | x :: xs, y :: ys, i + 1, d, h => by simp [pairs] at h; simpa using pairs_get h
theorem seqD_sq {K : PySem.W.Frag} {H : Hp} {v : V} {d : D} {b : Bool} {ds : List D} (h : Dp K H v d) (e : seqD d = some (b, ds)) : ∃ a xs, v = .ref a ∧ SqB b K H a xs ∧ DpAll K H xs ds := by
  cases d <;> simp [seqD] at e
  · obtain ⟨rfl, rfl⟩ := e
    obtain ⟨p, xs, rfl, hs, g⟩ := dp_lst h
    exact ⟨p, xs, rfl, hs, g⟩
  · obtain ⟨rfl, rfl⟩ := e
    obtain ⟨p, xs, rfl, hs, g⟩ := dp_tup h
    exact ⟨p, xs, rfl, hs, g⟩
theorem sqb_same {b : Bool} {K : PySem.W.Frag} {H H' : Hp} {a : Addr} {xs : List V} (e : Same H H') (h : SqB b K H a xs) : SqB b K H' a xs := by
  cases b
  · exact e.seq h
  · exact Same.sqt e h
theorem it_zipX {K : PySem.W.Frag} {ta : TA} {m : En → Option (List D)} (ha : TAm K ta m) : IT K (iZz K ta) (mZip m) := by
  refine ⟨fun {H0 T0 σ ρ H T ds} G h R q => ?_⟩
  obtain ⟨as, hx, h⟩ := bind_some h
  refine ha.run G hx _ fun vs H1 s1 d1 p1 => ?_
  split at h
  · rename_i da db
    obtain ⟨⟨b1, xs⟩, e1, h⟩ := bind_some h
    obtain ⟨⟨b2, ys⟩, e2, h⟩ := map_some h
    subst h
    obtain ⟨u, v, rfl, gu, gv⟩ := dpa_two p1
    obtain ⟨a, vx, rfl, hsx, gx⟩ := seqD_sq gu e1
    obtain ⟨b, vy, rfl, hsy, gy⟩ := seqD_sq gv e2
    have lx := dpa_len gx
    have ly := dpa_len gy
    refine ⟨a, b, vx, vy, b1, b2, rfl, sqb_same (same_ov d1) hsx, sqb_same (same_ov d1) hsy, q _ H1 s1 d1 ⟨fun {H T} i sm dis hi => ?_, fun {H T} sm dis => ?_, fun {H T} i {x Hc d} sm dis hd y => ?_⟩⟩
    · rw [pairs_len] at hi
      have i1 : i < vx.length := by rw [lx]; simp at hi; omega
      have i2 : i < vy.length := by rw [ly]; simp at hi; omega
      exact ⟨vx, vy, vx[i], vy[i], sqb_same (same_ov dis) (sqb_same sm hsx), sqb_same (same_ov dis) (sqb_same sm hsy), by simp [i1], by simp [i2]⟩
    · exact ⟨vx, vy, sqb_same (same_ov dis) (sqb_same sm hsx), sqb_same (same_ov dis) (sqb_same sm hsy), by rw [pairs_len, lx, ly]⟩
    · obtain ⟨p, xx, yy, rfl, np, rfl, ex, ey⟩ := y
      obtain ⟨dx, dy, hdx, hdy, rfl⟩ := pairs_get hd
      obtain ⟨wx, hwx, gwx⟩ := dpa_get gx hdx
      obtain ⟨wy, hwy, gwy⟩ := dpa_get gy hdy
      have := ex vx (sqb_same (same_ov dis) (sqb_same sm hsx))
      rw [hwx] at this
      cases this
      have := ey vy (sqb_same (same_ov dis) (sqb_same sm hsy))
      rw [hwy] at this
      cases this
      obtain ⟨nT, nH⟩ := ov_free np
      have sn : Same H (upd H p (.tup [xx, yy])) := same_new nH
      exact ⟨_, upd_ov nT, sn, dis_upd dis nT nH, .tup (.inl (.of upd_same)) (.cons (dp_mono sn (dp_mono sm gwx)) (.cons (dp_mono sn (dp_mono sm gwy)) .nil))⟩
  · cases h
end DD

set_option Elab.async false
set_option linter.all false
set_option maxRecDepth 100000
set_option maxHeartbeats 4000000
namespace DD
variable [TabQ] [ExQ]
open PySem PySem.Spec PyProof.Rows L2

/-! ### set(a list of ints), with what its order asks -/
section
variable {P : Program} {w : World} {A : Around} {E : Value → Shared → Prop} {s : Shared}
abbrev set0 (w : World) : Obj := { cls := .type "set", dict := none, data := .set #[] 0 (.fresh 0 0 (!w.params.followText "set-order")) }
/-- the step that fills the new set at N from the list at l -/
theorem fill_list {h0 : Heap} {l : Addr} {items : Array Value} (ns : List Int) (hh : A.handled = none) (hl : (h0.push (set0 w)).IsList l items) (hlt : l < h0.objs.size) (hi : IntsAre items.toList ns) (hb : ns.length + 1 < scanBound) {R : Result → Shared → Prop} {t : Shared} (ht : t.heap = h0.push (set0 w))
    (h : ∀ (h' : Heap) (tk c : Nat), SetR w h' h0.objs.size (fun j => decide (j ∈ ns)) c → c ≤ ns.length → (∀ b o, h0.get? b = some o → h'.get? b = some o) → R (.ok (.ret .none)) { t with heap := h', toks := tk }) :
    codeAny (model P w) A.in1.in1 (.builtin "set.update.loop" ⟨[.ref h0.objs.size, .ref (h0.push (set0 w)).objs.size], []⟩) R { t with heap := (h0.push (set0 w)).push { cls := .type "list_iterator", data := .fields #[.ref l, .int 0 0] } } := by
  have size1 : (h0.push (set0 w)).objs.size = h0.objs.size + 1 := Heap.size_push ..
  have len : items.size = ns.length := by
    have q := IntsAre.length hi
    rwa [Array.length_toList] at q
  have ne1 : l ≠ (h0.push (set0 w)).objs.size := by rw [size1]; exact Nat.ne_of_lt (Nat.lt_succ_of_lt hlt)
  have out : h0.objs.size ∉ [(h0.push (set0 w)).objs.size, l] := by
    rw [size1]
    intro m
    simp only [List.mem_cons, List.not_mem_nil, or_false] at m
    rcases m with m | m
    · exact absurd m (Nat.ne_of_lt (Nat.lt_succ_self _))
    · exact absurd m (Nat.ne_of_gt hlt)
  have at0 : ((h0.push (set0 w)).push { cls := .type "list_iterator", data := .fields #[.ref l, .int 0 0] }).get? h0.objs.size = some (set0 w) := Heap.get?_push_of_some _ (Heap.get?_push_size _ rfl)
  refine set_update_ints (P := P) (w := w) ((Walks.list (A := A.in1.in1.in1) (by simpa using hh) _ l ne1 items).toS) h0.objs.size out ns len hb (fun i v e => ?_) (items.size - 0) 0 _ (by omega) (Nat.zero_le _)
    ⟨⟨_, Heap.get?_push_size _ rfl, rfl, rfl⟩, hl.push _⟩ ⟨0, Nat.le_refl 0, setR_new_at at0⟩ fun s' c hm hc hS => ?_
  · have hil : i < ns.length := by rw [← len]; exact (Array.getElem?_eq_some_iff.mp e).1
    obtain ⟨tk, e2⟩ := IntsAre.int_at hi i v (by rw [Array.getElem?_toList]; exact e)
    refine ⟨ns[i], tk, List.getElem?_eq_getElem hil, ?_⟩
    rw [e2, List.getD_eq_getElem?_getD, List.getElem?_eq_getElem hil]
    rfl
  · obtain ⟨h', g', d', tk', os'⟩ := s'
    obtain rfl : g' = t.gens := hm.gens
    obtain rfl : d' = t.drawn := hm.drawn
    obtain rfl : os' = t.os := hm.os
    refine h h' tk' c hS (by rw [← len]; exact hc) fun b o e => hm.heap b o ?_ (Heap.get?_push_of_some _ (Heap.get?_push_of_some _ e))
    have lt := Heap.lt_size e
    rw [size1]
    intro m
    simp only [List.mem_cons, List.not_mem_nil, or_false] at m
    rcases m with m | m
    · exact absurd m (Nat.ne_of_lt lt)
    · exact absurd m (Nat.ne_of_lt (Nat.lt_succ_of_lt lt))
theorem call_setI {l : Addr} {items : Array Value} (ns : List Int) {Q : Value → Shared → Prop} (hh : A.handled = none) (hl : s.heap.IsList l items) (hit : IntsAre items.toList ns) (hb : ns.length + 1 < scanBound)
    (h : ∀ (h' : Heap) (tk c : Nat), SetR w h' s.heap.objs.size (fun j => decide (j ∈ ns)) c → c ≤ ns.length → (∀ b o, s.heap.get? b = some o → h'.get? b = some o) → Q (.ref s.heap.objs.size) { s with heap := h', toks := tk }) :
    wpAny (model P w) A (call (.type "set") [.ref l]) Q E s := by
  obtain ⟨c0, tl, hmro⟩ := F.called_set.mro
  have h0 := F.called_set.made
  have h1 := F.called_set.notType
  have h2 := F.called_set.canCreate
  have h3 := F.called_set.sub
  have h4 := F.typeCall_set_1 (.ref l)
  refine wpAny_call (codeAny_of_tree (show wpAny _ _ (callAny (.type "set") _) _ _ _ from wpAny_pure ⟨Code.quiet_builtin _ (by decide +kernel), codeAny_builtin F.entry_type_call ?_⟩))
  rw [Around.under_plain (weight_type_call_type "set" [.ref l] []) rfl]
  repeat (any_goals (first | assumption | wp_step))
  refine codeAny_mono (code_set_led1 (.ref l) (E := E) (Q₁ := fun obj s₁ => obj = .ref s.heap.objs.size ∧ s₁ = { s with heap := s.heap.push (set0 w) }) ⟨rfl, rfl⟩) fun r s₁ hr => ?_
  cases r with
  | error e => exact hr
  | ok fl =>
    cases fl with
    | ret obj =>
      obtain ⟨rfl, rfl⟩ := hr
      have at0 : (s.heap.push (set0 w)).get? s.heap.objs.size = some (set0 w) := Heap.get?_push_size _ rfl
      have ty : Shared.TypeIs { s with heap := s.heap.push (set0 w) } (.ref s.heap.objs.size) "set" := ⟨_, at0, rfl⟩
      have h5 := F.called_set.init.lookup
      have h6 := F.called_set.init.bind (.ref s.heap.objs.size)
      repeat (any_goals (first | assumption | wp_step))
      refine codeAny_mono (codeAny_call_builtin (R := wants (fun r s₂ => r = .none ∧ ∃ h' tk c, s₂ = { s with heap := h', toks := tk } ∧ SetR w h' s.heap.objs.size (fun j => decide (j ∈ ns)) c ∧ c ≤ ns.length ∧
          (∀ b o, s.heap.get? b = some o → h'.get? b = some o)) E) F.called_set.init.plain F.entry_set_init (check_set_init_1 ty ?_)) fun r₂ s₂ hr₂ => ?_
      · obtain ⟨⟨ocls, odict, odata, oslots⟩, hol, hcl, nl, hdl⟩ := hl
        simp only at hcl hdl
        subst hcl hdl
        have hol' : (s.heap.push (set0 w)).get? l = some { cls := .type "list", dict := odict, data := .seq items nl, slots := oslots } := Heap.get?_push_of_some _ hol
        have h7 := F.sub_list_set
        have h8 := F.sub_list_frozenset
        have h9 : (Value.type "list" == Value.type "dict") = false := by decide
        have hL : (s.heap.push (set0 w)).IsList l items := ⟨_, hol', rfl, nl, rfl⟩
        unfold Builtin.«set.__init__» noKeywords Builtin.Frozenset.updateFrom
        generalize hPI : pyIter = PI
        wp_walk
        subst hPI
        refine wpAny_pyIter_list hL (wpAny_bind (wpAny_runValue ?_))
        refine fill_list (A := A) (t := { s with heap := s.heap.push (set0 w) }) ns hh hL (Heap.lt_size hol) hit hb rfl fun h' tk c hS hc hk => ?_
        refine wpAny_pure ?_
        show wpAny _ _ (ret Value.none) _ _ _
        exact wpAny_pure ⟨rfl, h', tk, c, rfl, hS, hc, hk⟩
      · cases r₂ with
        | error e => exact hr₂
        | ok fl₂ =>
          cases fl₂ with
          | ret r =>
            obtain ⟨rfl, h', tk, c, rfl, hS, hc, hk⟩ := hr₂
            repeat (any_goals (first | assumption | wp_step))
            exact h _ _ _ hS hc hk
          | _ => exact hr₂.elim
    | _ => exact hr.elim
end
end DD

set_option Elab.async false
set_option linter.all false
set_option maxRecDepth 100000
set_option maxHeartbeats 4000000
namespace DD
variable [TabQ] [ExQ]
open PySem PySem.Spec PyProof.Rows L2

/-! ### l.extend(a tuple), a list + a list -/
theorem ext_tup (l : Addr) (items : Array Value) (n : Nat) (b : Addr) (items2 : Array Value) (n2 : Nat) (dd : Option Addr) (sl : Array (Option Value)) (c0 : ¬(!items.isEmpty && Builtin.List.listTooLong (items.size + items2.size)) = true) (c1 : items.size ≤ sizeLine) (c2 : items.size + items2.size ≤ sizeLine + 1) :
    Meets (Builtin.«list.extend» ⟨[.ref l, .ref b], []⟩) (fun _ R s => s.heap.get? l = some { cls := .type "list", dict := none, data := .seq items n, slots := #[] } ∧ s.heap.get? b = some { cls := .type "tuple", dict := dd, data := .seq items2 n2, slots := sl } ∧
      R (.ok (.ret Value.none)) { s with heap := s.heap.update l (Obj.mapSeq fun x => x ++ items2) }) :=
  .of_wp fun prog w A R s h => by
    obtain ⟨hp, g, d, tk, os⟩ := s
    obtain ⟨hl, hb, h⟩ := h
    have f1 := AutoSeq1.sub_tuple_tuple
    have f2 := AutoSeq1.sub_list_list
    have f3 := AutoSeq1.sub_tuple_list
    have f4 := AutoSeq1.sub_list_tuple
    have f5 : (items ++ items2).size ≤ sizeLine + 1 := by rw [Array.size_append]; exact c2
    wp_walk using (wpAny_updateSeq hl rfl (hz := c1) (_hz' := f5)), wpAny_loadPart' hl, wpAny_loadPart' hb
    exact ⟨_, rfl, h⟩
section
variable {X : Cx}
def rExtendA (K : PySem.W.Frag) : V → List V → Hp → VK → Prop := fun x vs H Q => ∃ l b xs zs, x = .ref l ∧ vs = [.ref b] ∧ H l = some (.lst xs) ∧ SqT K H b zs ∧ xs.length + zs.length ≤ sizeLine ∧ Q .non (upd H l (.lst (xs ++ zs)))
theorem mt_extendA : MtM X "list.extend" (rExtendA X.K) := by
  intro pins s σ H x vs v us Q I rx rv h
  obtain ⟨l, b, xs, zs, rfl, rfl, hH, hB, hz, q⟩ := h
  cases rx
  obtain ⟨u, rfl, ru⟩ := rv.one
  cases ru
  obtain ⟨z, its, n, r, hl, e⟩ := I.lstM hH
  obtain ⟨its2, r2, ⟨⟨cls2, dd2, data2, sl2⟩, e2, hc2, n2, hd2⟩, z2⟩ := I.tuple hB
  simp only at hc2 hd2
  subst hc2 hd2
  have l2 := r2.length
  have sz : its.toArray.size + its2.toArray.size ≤ sizeLine := by rw [List.size_toArray, List.size_toArray]; omega
  have nl : ¬ (!its.toArray.isEmpty && Builtin.List.listTooLong (its.toArray.size + its2.toArray.size)) = true := by
    rw [notLongL sz, Bool.and_false]
    exact Bool.false_ne_true
  refine call_meets F.slot_list_extend ⟨_, e, rfl⟩ F.entry_list_extend (F.args_list_extend_2 _ _)
    (ext_tup l its.toArray n b its2.toArray n2 dd2 sl2 nl (by omega) (by omega)) ⟨e, e2, ?_⟩
  refine ⟨.non, _, I.lset (its' := its ++ its2) hH e (by simp) (r.append r2) ?_, rfl, q⟩
  rw [List.length_append]
  omega
def rCatX (K : PySem.W.Frag) : R2 := fun x y H Q => ∃ l b xs zs, x = .ref l ∧ y = .ref b ∧ SqL K H l xs ∧ SqL K H b zs ∧ xs.length + zs.length ≤ sizeLine ∧ ∀ p, H p = none → Q (.ref p) (upd H p (.lst (xs ++ zs)))
theorem op_catX : OpR X (binaryOp .Add) (rCatX X.K) := by
  intro pins s σ H x y v u Q I rx ry h
  obtain ⟨l, b, xs, zs, rfl, rfl, hH, hB, hz, q⟩ := h
  cases rx
  cases ry
  obtain ⟨its, r, ⟨⟨c1, dd1, data1, sl1⟩, n, e, hc1, hn1, hd1⟩, z1⟩ := I.list hH
  obtain ⟨its2, r2, ⟨⟨c2, dd2, data2, sl2⟩, n2, e2, hc2, hn2, hd2⟩, z2⟩ := I.list hB
  simp only at hc1 hd1 hc2 hd2
  subst hc1 hd1 hc2 hd2
  have l1 := r.length
  have l2 := r2.length
  refine concat_meets ⟨_, e, rfl⟩ ⟨_, e2, rfl⟩ noFill_list_add seq_list_add PySem.F.slot_list_add PySem.F.entry_list_add (PySem.F.args_list_add_2 _ _) (list_addW l b its.toArray its2.toArray n n2 dd1 dd2 sl1 sl2 (by simp; omega)) ⟨e, e2, ?_⟩
  have ea : its.toArray ++ its2.toArray = (its ++ its2).toArray := by simp
  rw [ea]
  exact ⟨.ref s.heap.objs.size, upd H s.heap.objs.size (.lst (xs ++ zs)), I.laid (t' := s.toks) (fun _ _ z => Heap.get?_push_of_some _ z) (Nat.le_refl _) ⟨by rw [List.length_append]; exact hz, its ++ its2, 0, r.append r2, Heap.get?_push_size _ rfl⟩, rfl, q _ (I.hok.fresh (Nat.le_refl _))⟩
end
section
variable {K : PySem.W.Frag}
def sExtendA (i : Nat) (a : En → Option D) : En → Option Fl := fun ρ => match ρ[i]? with
  | some (some (.own ds)) => (a ρ).bind fun x => match x with
    | .tuple es => if ds.length + es.length ≤ cap then some (.nx (ρ.set i (some (.own (ds ++ es))))) else none
    | _ => none
  | _ => none
theorem st_extendA {i : Nat} {te : TE} {ma : En → Option D} (ha : ET K te ma) : TSm K (tDrop (tBM K "list" (rExtendA K) (tVar i) (tCons te tNil))) (sExtendA i ma) := by
  refine ⟨fun {H0 T0 σ ρ H T f} G h E q => ?_⟩
  unfold sExtendA at h
  split at h
  · rename_i ds e
    obtain ⟨x, hx, h⟩ := bind_some h
    split at h
    · rename_i es
      split at h
      · rename_i hz
        cases h
        obtain ⟨p, xs, a, b, c, g⟩ := G.own i ds e
        refine ⟨.ref p, a, .inl ⟨rfl, xs, SqL.of (ov_own b)⟩, ?_⟩
        refine ha.run G hx _ fun v H1 s1 d1 p1 => ?_
        obtain ⟨pt, zs, rfl, hs, gz⟩ := dp_tup p1
        have G1 := G.mono s1 d1
        have gx := dpa_mono s1 g
        refine ⟨p, pt, xs, zs, rfl, rfl, ov_own b, sqt_ov d1 hs, ?_, ?_⟩
        · rw [dpa_len gx, dpa_len gz]
          exact cap_line hz
        · rw [upd_put]
          exact q _ H1 _ (G1.turn e a b (dpa_append gx gz))
      · cases h
    · cases h
  · cases h
def mCatV (a : En → Option D) (b : En → Option (List D)) : En → Option (List D) := fun ρ => (a ρ).bind fun x => (b ρ).bind fun y => match x with
  | .list xs => if xs.length + y.length ≤ cap then some (xs ++ y) else none
  | _ => none
theorem fl_catV {ta tb : TE} {ma : En → Option D} {mb : En → Option (List D)} (ha : ET K ta ma) (hb : FL K tb mb) : FL K (tOp (rCatX K) ta tb) (mCatV ma mb) := by
  refine ⟨fun {H0 T0 σ ρ H T out} G h Q q => ?_⟩
  obtain ⟨x, hx, h⟩ := bind_some h
  obtain ⟨y, hy, h⟩ := bind_some h
  refine ha.run G hx _ fun v H1 s1 d1 p1 => ?_
  refine hb.run (G.mono s1 d1) hy _ fun p xs H2 s2 d2 np g2 => ?_
  split at h
  · split at h
    · rename_i hz
      cases h
      obtain ⟨a, us, rfl, hs, gu⟩ := dp_lst (dp_mono s2 p1)
      obtain ⟨nT, nH⟩ := ov_free np
      have sn : Same H2 (upd H2 p (.lst xs)) := same_new nH
      rw [upd_ov nT]
      refine ⟨a, p, us, xs, rfl, rfl, sql_ov (dis_upd d2 nT nH) (sn.seq hs), sql_ov (dis_upd d2 nT nH) (.of upd_same), by rw [dpa_len gu, dpa_len g2]; exact cap_line hz, fun p2 np2 => ?_⟩
      obtain ⟨nT2, nH2⟩ := ov_free np2
      exact q p2 _ _ ((s1.trans s2).trans sn) (dis_upd d2 nT nH) np2 (dpa_append (dpa_mono sn gu) (dpa_mono sn g2))
    · cases h
  · cases h
theorem fl_cat {ta tb : TE} {ma mb : En → Option (List D)} (ha : FL K ta ma) (hb : FL K tb mb) : FL K (tOp (rCatX K) ta tb) (mCatL ma mb) := by
  refine ⟨fun {H0 T0 σ ρ H T out} G h Q q => ?_⟩
  obtain ⟨x, hx, h⟩ := bind_some h
  obtain ⟨y, hy, h⟩ := bind_some h
  refine fl_catV (ev_list ha) hb |>.run G (ds := out) ?_ Q q
  show ((ma ρ).map PyData.list).bind _ = _
  rw [hx]
  show (mb ρ).bind _ = _
  rw [hy]
  exact h
end
end DD

set_option Elab.async false
set_option linter.all false
set_option maxRecDepth 100000
set_option maxHeartbeats 4000000
namespace DD
variable [TabQ] [ExQ]
open PySem PySem.Spec PyProof.Rows L2

/-! ### sorted(set(ints)) -/
def ins1 (x : Int) : List Int → List Int
  | [] => [x]
  | y :: r => if x < y then x :: y :: r else if x = y then y :: r else y :: ins1 x r
def sset : List Int → List Int
  | [] => []
  | x :: r => ins1 x (sset r)
theorem ins1_mem {x z : Int} : ∀ {l : List Int}, z ∈ ins1 x l ↔ z = x ∨ z ∈ l
  | [] => by simp [ins1]
  | y :: r => by
    unfold ins1
    by_cases h : x < y
    · rw [if_pos h]; simp
    · rw [if_neg h]
      by_cases h2 : x = y
      · rw [if_pos h2]; subst h2; simp
      · rw [if_neg h2]
        simp only [List.mem_cons, ins1_mem (l := r)]
        exact ⟨fun q => by rcases q with q | q | q <;> simp [q], fun q => by rcases q with q | q | q <;> simp [q]⟩
theorem ins1_sorted {x : Int} : ∀ {l : List Int}, l.Pairwise (· < ·) → (ins1 x l).Pairwise (· < ·)
  | [], _ => by simp [ins1]
  | y :: r, h => by
    obtain ⟨h1, h2⟩ := List.pairwise_cons.mp h
    unfold ins1
    by_cases c : x < y
    · rw [if_pos c]
      refine List.pairwise_cons.mpr ⟨fun z hz => ?_, h⟩
      rcases List.mem_cons.mp hz with rfl | hz
      · exact c
      · exact Int.lt_trans c (h1 z hz)
    · rw [if_neg c]
      by_cases c2 : x = y
      · rw [if_pos c2]; exact h
      · rw [if_neg c2]
        refine List.pairwise_cons.mpr ⟨fun z hz => ?_, ins1_sorted h2⟩
        rcases ins1_mem.mp hz with rfl | hz
        · omega
        · exact h1 z hz
theorem sset_mem {z : Int} : ∀ {l : List Int}, z ∈ sset l ↔ z ∈ l
  | [] => Iff.rfl
  | x :: r => by
    show z ∈ ins1 x (sset r) ↔ _
    rw [ins1_mem, sset_mem (l := r), List.mem_cons]
theorem sset_sorted : ∀ (l : List Int), (sset l).Pairwise (· < ·)
  | [] => .nil
  | x :: r => ins1_sorted (sset_sorted r)
theorem lt_uniq : ∀ {a b : List Int}, a.Pairwise (· < ·) → b.Pairwise (· < ·) → (∀ z, z ∈ a ↔ z ∈ b) → a = b
  | [], [], _, _, _ => rfl
  | [], y :: r, _, _, h => absurd ((h y).mpr List.mem_cons_self) (by simp)
  | x :: r, [], _, _, h => absurd ((h x).mp List.mem_cons_self) (by simp)
  | x :: r, y :: t, ha, hb, h => by
    obtain ⟨a1, a2⟩ := List.pairwise_cons.mp ha
    obtain ⟨b1, b2⟩ := List.pairwise_cons.mp hb
    have e : x = y := by
      rcases List.mem_cons.mp ((h x).mp List.mem_cons_self) with e | e
      · exact e
      · rcases List.mem_cons.mp ((h y).mpr List.mem_cons_self) with e2 | e2
        · exact e2.symm
        · exact absurd (Int.lt_trans (b1 x e) (a1 y e2)) (Int.lt_irrefl _)
    subst e
    refine congrArg _ (lt_uniq a2 b2 fun z => ⟨fun q => ?_, fun q => ?_⟩)
    · rcases List.mem_cons.mp ((h z).mp (List.mem_cons_of_mem _ q)) with e | e
      · exact absurd (e ▸ a1 z q) (Int.lt_irrefl _)
      · exact e
    · rcases List.mem_cons.mp ((h z).mpr (List.mem_cons_of_mem _ q)) with e | e
      · exact absurd (e ▸ b1 z q) (Int.lt_irrefl _)
      · exact e
def intsD : List D → Option (List Int)
  | [] => some []
  | .int i :: r => (intsD r).map (i :: ·)
  | _ => none
theorem ints_some : ∀ {ds : List D} {ns : List Int}, intsD ds = some ns → ds = ns.map PyData.int
  | [], _, h => by cases h; rfl
  | d :: r, ns, h => by
    cases d <;> first | exact nomatch (show none = some ns from h) | skip
    obtain ⟨ms, e, h⟩ := map_some h
    subst h
    rw [ints_some e]; rfl
theorem ints_map : ∀ ns : List Int, intsD (ns.map PyData.int) = some ns
  | [] => rfl
  | i :: r => by show (intsD _).map _ = _; rw [ints_map r]; rfl
theorem dpa_ints_v {K : PySem.W.Frag} {H : Hp} : ∀ {ns : List Int} {vs : List V}, DpAll K H vs (ns.map PyData.int) → vs = ns.map V.int
  | [], _, h => by cases h; rfl
  | i :: r, _, h => by
    cases h with
    | cons a b => rw [dp_int a, dpa_ints_v b]; rfl
section
variable {X : Cx}
def tSortedSet (K : PySem.W.Frag) (ta : TE) : TE := fun σ H Q => ta σ H fun x H1 => ∃ (l : Addr) (ns : List Int), x = V.ref l ∧ SqL K H1 l (ns.map V.int) ∧ ns.length < 63 ∧ ∀ p, H1 p = none → Q (.ref p) (upd H1 p (.lst ((sset ns).map V.int)))
theorem pe_sortedSet {a : Expr} {ta : TE} {p p2 q pos : Pos} (hg : Gl X "sorted") (hm : X.mg "sorted" = none) (hg2 : Gl X "set") (hm2 : X.mg "set" = none) (ha : PE X a ta) (hc : X.calm = true := by rfl)
    (na : starEach [a] X.env = (false, eval a X.env) :: starEach [] X.env := by rfl) : PE X (.Call (.Name "sorted" p) [.Call (.Name "set" p2) [a] [] q] [] pos) (tSortedSet X.K ta) := by
  refine ⟨fun pins s σ H Q I h => ?_⟩
  refine Call_ (ld_blt I hg hm (by boot_by_name) ?_)
  refine PyProof.Rows.callWith_builtin1 (PyProof.Rows.args_cons ?_ rfl) rfl rfl
  refine Call_ (ld_blt I hg2 hm2 boot_set ?_)
  refine PyProof.Rows.callWith_type1 (PyProof.Rows.args_cons (thn (ha.run pins s σ H _ I h) fun v s1 ⟨x, H1, I1, r1, q1⟩ => PyProof.Rows.args_nil ?_) na) na rfl
  obtain ⟨l, ns, rfl, hq, hl, q1⟩ := q1
  cases r1
  obtain ⟨its, r, pl, hz⟩ := I1.list hq
  refine call_setI ns (I1.ok.hd hc) pl.isList (by simpa using r.ints) (by unfold scanBound; omega) fun h' tk c hS hcl hk => ?_
  refine PyProof.Rows.args_nil ?_
  have I2 : Inv X pins σ H1 { s1 with heap := h', toks := tk } := I1.kept fun b o e => hk b o e
  refine sorted_set hS (I2.ok.hd hc) (by omega) fun s' p out c2 ns2 k g o hp hg hi hs hm hln => ?_
  have e : ns2 = sset ns := lt_uniq hs (sset_sorted ns) fun z => by rw [hm, sset_mem]; simp
  subst e
  have hlen : ((sset ns).map V.int).length ≤ sizeLine := by rw [List.length_map, hln, sizeLine_eq]; omega
  have hn : H1 p = none := I2.hok.fresh hp
  have J : Inv X pins σ (upd H1 p (.lst ((sset ns).map V.int))) { { s1 with heap := h', toks := tk } with heap := s'.heap, gens := s'.gens, drawn := s'.drawn, toks := s'.toks } :=
    I2.call (ch := []) (Un.laid k hp hn) (I2.hok.laid k hp ⟨hlen, out.toList, c2, vals_of_ints hi, hg⟩) (by rw [g]; exact I2.bare) (fun _ z => nomatch z)
  have e : s' = { { s1 with heap := h', toks := tk } with heap := s'.heap, gens := s'.gens, drawn := s'.drawn, toks := s'.toks } := by
    cases s'
    cases s1
    cases o
    rfl
  rw [e]
  exact ⟨.ref p, _, J, rfl, q1 p hn⟩
end
section
variable {K : PySem.W.Frag}
def mSortedSet (a : En → Option D) : En → Option (List D) := fun ρ => (a ρ).bind fun x => match x with
  | .list ds => (intsD ds).bind fun ns => if ns.length < 63 then some ((sset ns).map PyData.int) else none
  | _ => none
theorem fl_sortedSet {ta : TE} {ma : En → Option D} (ha : ET K ta ma) : FL K (tSortedSet K ta) (mSortedSet ma) := by
  refine ⟨fun {H0 T0 σ ρ H T out} G h Q q => ?_⟩
  obtain ⟨x, hx, h⟩ := bind_some h
  refine ha.run G hx _ fun v H1 s1 d1 p1 => ?_
  split at h
  · obtain ⟨ns, e, h⟩ := bind_some h
    split at h
    · rename_i hz
      cases h
      cases ints_some e
      obtain ⟨a, us, rfl, hs, gu⟩ := dp_lst p1
      cases dpa_ints_v gu
      exact ⟨a, ns, rfl, sql_ov d1 hs, hz, fun p np => q p _ H1 s1 d1 np (dpa_ints _)⟩
    · cases h
  · cases h
end

/-! ### sorted(texts) -/
def leS (a b : Str) : Bool := !ltCps b.cps.toList a.cps.toList
def insS (x : Str) : List Str → List Str
  | [] => [x]
  | y :: r => if leS x y = true then x :: y :: r else y :: insS x r
def sortS : List Str → List Str
  | [] => []
  | x :: r => insS x (sortS r)
theorem leS_iff {a b : Str} : leS a b = true ↔ a.cps.toList ≤ b.cps.toList := by
  unfold leS
  rw [ltCps_eq, ← List.not_lt]
  simp
theorem leS_trans {a b c : Str} (h : leS a b = true) (g : leS b c = true) : leS a c = true := leS_iff.mpr (List.le_trans (leS_iff.mp h) (leS_iff.mp g))
theorem leS_total (a b : Str) : leS a b = true ∨ leS b a = true := by
  by_cases h : leS a b = true
  · exact .inl h
  · refine .inr ?_
    unfold leS at h ⊢
    rw [ltCps_eq] at h ⊢
    have h' : b.cps.toList < a.cps.toList := by simpa using h
    simpa using List.le_of_lt h'
theorem leS_anti {a b : Str} (h : leS a b = true) (g : leS b a = true) : a = b := by
  have e : a.cps.toList = b.cps.toList := List.le_antisymm (leS_iff.mp h) (leS_iff.mp g)
  obtain ⟨⟨x⟩⟩ := a
  obtain ⟨⟨y⟩⟩ := b
  cases e
  rfl
theorem insS_perm (x : Str) : ∀ l : List Str, (insS x l).Perm (x :: l)
  | [] => .refl _
  | y :: r => by
    unfold insS
    split
    · exact .refl _
    · exact ((insS_perm x r).cons y).trans (.swap x y r)
theorem sortS_perm : ∀ l : List Str, (sortS l).Perm l
  | [] => .refl _
  | x :: r => (insS_perm x (sortS r)).trans ((sortS_perm r).cons x)
theorem insS_sorted {x : Str} : ∀ {l : List Str}, l.Pairwise (fun a b => leS a b = true) → (insS x l).Pairwise (fun a b => leS a b = true)
  | [], _ => by simp [insS]
  | y :: r, h => by
    obtain ⟨h1, h2⟩ := List.pairwise_cons.mp h
    unfold insS
    split
    · rename_i c
      refine List.pairwise_cons.mpr ⟨fun z hz => ?_, h⟩
      rcases List.mem_cons.mp hz with rfl | hz
      · exact c
      · exact leS_trans c (h1 z hz)
    · rename_i c
      refine List.pairwise_cons.mpr ⟨fun z hz => ?_, insS_sorted h2⟩
      rcases List.mem_cons.mp ((insS_perm x r).mem_iff.mp hz) with rfl | hz
      · exact (leS_total z y).resolve_left c
      · exact h1 z hz
theorem sortS_sorted : ∀ l : List Str, (sortS l).Pairwise (fun a b => leS a b = true)
  | [] => .nil
  | x :: r => insS_sorted (sortS_sorted r)
theorem risingS_pw : ∀ {p : Str} {l : List Str}, risingS p l = true → (p :: l).Pairwise (fun a b => leS a b = true)
  | p, [], _ => List.pairwise_singleton _ _
  | p, x :: r, h => by
    have h' : (leS p x && risingS x r) = true := h
    obtain ⟨h1, h2⟩ := Bool.and_eq_true_iff.mp h'
    have ih := risingS_pw h2
    refine List.pairwise_cons.mpr ⟨fun z hz => ?_, ih⟩
    rcases List.mem_cons.mp hz with rfl | hz
    · exact h1
    · exact leS_trans h1 ((List.pairwise_cons.mp ih).1 z hz)
theorem sortedS_pw : ∀ {l : List Str}, sortedS l = true → l.Pairwise (fun a b => leS a b = true)
  | [], _ => .nil
  | _ :: _, h => risingS_pw h
theorem sortS_uniq {l ys : List Str} (h : ys.Perm l) (g : sortedS ys = true) : ys = sortS l :=
  List.Perm.eq_of_pairwise (fun a b _ _ x y => leS_anti x y) (sortedS_pw g) (sortS_sorted l) (h.trans (sortS_perm l).symm)
def strsD : List D → Option (List Str)
  | [] => some []
  | .str x :: r => (strsD r).map (x :: ·)
  | _ => none
theorem strs_some : ∀ {ds : List D} {ns : List Str}, strsD ds = some ns → ds = ns.map PyData.str
  | [], _, h => by cases h; rfl
  | d :: r, ns, h => by
    cases d <;> first | exact nomatch (show none = some ns from h) | skip
    obtain ⟨ms, e, h⟩ := map_some h
    subst h
    rw [strs_some e]; rfl
theorem dpa_strs {K : PySem.W.Frag} {H : Hp} : ∀ ns : List Str, DpAll K H (ns.map V.str) (ns.map PyData.str)
  | [] => .nil
  | x :: r => .cons (.str x) (dpa_strs r)
theorem dpa_strs_v {K : PySem.W.Frag} {H : Hp} : ∀ {ns : List Str} {vs : List V}, DpAll K H vs (ns.map PyData.str) → vs = ns.map V.str
  | [], _, h => by cases h; rfl
  | i :: r, _, h => by
    cases h with
    | cons a b => rw [dp_str a, dpa_strs_v b]; rfl
section
variable {K : PySem.W.Frag}
def dSortedS : List D → Option (List D)
  | [.list ds] => (strsD ds).bind fun ns => if ns.length < 64 then some ((sortS ns).map PyData.str) else none
  | _ => none
theorem cl_sortedS : CL K (rSortedS K) dSortedS := by
  refine ⟨?_⟩
  intro H T vs ds out dis g h Q q
  unfold dSortedS at h
  split at h
  · obtain ⟨ns, e, h⟩ := bind_some h
    split at h
    · rename_i hz
      cases h
      cases strs_some e
      obtain ⟨v, rfl, g2⟩ := dpa_one g
      obtain ⟨a, us, rfl, hs, gu⟩ := dp_lst g2
      cases dpa_strs_v gu
      refine ⟨a, ns, rfl, sql_ov dis hs, hz, fun ys p hp hs hn => ?_⟩
      cases sortS_uniq hp hs
      exact q p _ H (Same.refl H) dis hn (dpa_strs _)
    · cases h
  · cases h
end
end DD

set_option Elab.async false
set_option linter.all false
set_option maxRecDepth 100000
set_option maxHeartbeats 4000000
namespace DD
variable [TabQ] [ExQ]
open PySem PySem.Spec PyProof.Rows L2

/-! ### a dict of the top, as data -/
def deVs (f : Value → Option D) : List Value → Option (List D)
  | [] => some []
  | u :: r => match f u, deVs f r with
    | some d, some ds => some (d :: ds)
    | _, _ => none
def deF : Value → Option D
  | .none => some .none
  | .bool b => some (.bool b)
  | .int i _ => some (.int i)
  | .str x _ => some (.str x)
  | _ => none
def deV (K : PySem.W.Frag) : Nat → Value → Option D
  | n + 1, .ref a => match K.lookup a with
    | some ⟨.type c, _, .seq its _, _⟩ => match decide (c = "tuple") && decide (its.size ≤ 1000) with
      | true => (deVs (deV K n) its.toList).map PyData.tuple
      | false => none
    | _ => none
  | _, u => deF u
def dicD (K : PySem.W.Frag) : List DictEntry → Option (List (Str × D))
  | [] => some []
  | e :: r => match e.key, deV K 3 e.val, dicD K r with
    | .str x _, some d, some ds => some ((x, d) :: ds)
    | _, _, _ => none
def dicAt (K : PySem.W.Frag) (a : Addr) : Option (List (Str × D)) := match K.lookup a with
  | some ⟨_, _, .dict es _, _⟩ => dicD K es.toList
  | _ => none
theorem deVs_ok {K : PySem.W.Frag} {f : Value → Option D} (hf : ∀ (u : Value) {d : D}, f u = some d → ∃ v, RelV v u ∧ ∀ H, Dp K H v d) : ∀ (us : List Value) {ds : List D}, deVs f us = some ds → ∃ vs, Vals vs us ∧ ∀ H, DpAll K H vs ds
  | [], _, h => by cases h; exact ⟨[], .nil, fun _ => .nil⟩
  | u :: r, ds, h => by
    unfold deVs at h
    split at h
    · rename_i d ds2 e1 e2
      cases h
      obtain ⟨v, rv, g⟩ := hf u e1
      obtain ⟨vs, rvs, gs⟩ := deVs_ok hf r e2
      exact ⟨v :: vs, .cons rv rvs, fun H => .cons (g H) (gs H)⟩
    · cases h
theorem deF_ok {K : PySem.W.Frag} (u : Value) {d : D} (h : deF u = some d) : ∃ v, RelV v u ∧ ∀ H, Dp K H v d := by
  cases u with
  | none => cases h; exact ⟨.non, rfl, fun _ => .non⟩
  | bool b => cases h; exact ⟨.bl b, rfl, fun _ => .bl b⟩
  | int i t => cases h; exact ⟨.int i, ⟨t, rfl⟩, fun _ => .int i⟩
  | str x t => cases h; exact ⟨.str x, ⟨t, rfl⟩, fun _ => .str x⟩
  | _ => cases h
theorem deV_ok {K : PySem.W.Frag} : ∀ (n : Nat) (u : Value) {d : D}, deV K n u = some d → ∃ v, RelV v u ∧ ∀ H, Dp K H v d
  | 0, u, _, h => by
    refine deF_ok u ?_
    unfold deV at h
    exact h
  | n + 1, u, d, h => by
    cases u with
    | ref a =>
      unfold deV at h
      split at h
      · rename_i c od its k sl e
        split at h
        · rename_i e2
          obtain ⟨e3, e4⟩ := Bool.and_eq_true_iff.mp e2
          have e5 : c = "tuple" := of_decide_eq_true e3
          have e6 : its.size ≤ 1000 := of_decide_eq_true e4
          obtain ⟨ds, e7, h⟩ := map_some h
          subst h e5
          obtain ⟨vs, rv, g⟩ := deVs_ok (fun u {d} h => deV_ok n u h) its.toList e7
          exact ⟨.ref a, rfl, fun H => .tup (.inr ⟨_, its, k, e, rfl, rfl, Nat.le_trans e6 (by decide), rv⟩) (g H)⟩
        · cases h
      · cases h
    | _ => exact deF_ok _ (by unfold deV at h; exact h)
def kget (kvs : List (Str × D)) (z : Str) : Option D := match kvs.find? fun kv => kv.1 == z with
  | some kv => some kv.2
  | none => none
/-- at d: the dict of these keys and data -/
structure DictC (K : PySem.W.Frag) (w : World) (d : Addr) (kvs : List (Str × D)) : Prop where
  kd : ∃ es n, KDict K w d es n ∧ es.toList.map He.keyOf = He.keysIn w.params (kvs.map (·.1))
  hit : ∀ z x, kget kvs z = some x → ∃ u v, PySem.W.nsIn K d z = some (some u) ∧ RelV v u ∧ ∀ H, Dp K H v x
  miss : ∀ z, kget kvs z = none → PySem.W.nsIn K d z = some none
theorem dicD_hit {K : PySem.W.Frag} : ∀ {l : List DictEntry} {kvs : List (Str × D)}, dicD K l = some kvs → ∀ z : Str,
    (∀ x, kget kvs z = some x → ∃ e v, l.find? (·.key.isStr z) = some e ∧ RelV v e.val ∧ ∀ H, Dp K H v x) ∧ (kget kvs z = none → l.find? (·.key.isStr z) = none)
  | [], kvs, h, z => by
    cases h
    exact ⟨fun x h => by simp [kget] at h, fun _ => rfl⟩
  | e :: r, kvs, h, z => by
    unfold dicD at h
    split at h
    · rename_i x t d ds e1 e2 e3
      cases h
      obtain ⟨i1, i2⟩ := dicD_hit e3 z
      have ek : e.key.isStr z = (x == z) := by rw [e1]; rfl
      by_cases c : (x == z) = true
      · have g : kget ((x, d) :: ds) z = some d := by unfold kget; rw [List.find?_cons_of_pos (by exact c)]
        obtain ⟨v, rv, dv⟩ := deV_ok 3 e.val e2
        refine ⟨fun y hy => ?_, fun hn => by rw [g] at hn; cases hn⟩
        rw [g] at hy
        cases hy
        exact ⟨e, v, by rw [List.find?_cons_of_pos (by rw [ek]; exact c)], rv, dv⟩
      · have g : kget ((x, d) :: ds) z = kget ds z := by unfold kget; rw [List.find?_cons_of_neg (by exact c)]
        rw [g, List.find?_cons_of_neg (by rw [ek]; exact c)]
        exact ⟨i1, i2⟩
    · cases h
theorem dictC_of {K : PySem.W.Frag} {w : World} {a : Addr} {kvs : List (Str × D)} (h1 : He.dicW K a = some (He.keysIn w.params (kvs.map (·.1)))) (h2 : dicAt K a = some kvs) : DictC K w a kvs := by
  obtain ⟨es, n, kd⟩ := He.dicW_ok h1
  have e1 : es.toList.map He.keyOf = He.keysIn w.params (kvs.map (·.1)) := by
    unfold He.dicW at h1
    rw [kd.at_] at h1
    simp only at h1
    split at h1
    · exact Option.some.inj h1
    · cases h1
  have e2 : dicD K es.toList = some kvs := by
    unfold dicAt at h2
    rw [kd.at_] at h2
    exact h2
  have nr : es.toList.any (·.refKey) = false := by
    rw [List.any_eq_false]
    intro e he
    obtain ⟨x, t, ek, _⟩ := PySem.W.KeysLit.all kd.lit e he
    simp [DictEntry.refKey, ek]
  refine ⟨⟨es, n, kd, e1⟩, fun z x hx => ?_, fun z hz => ?_⟩
  · obtain ⟨e, v, h3, rv, dv⟩ := (dicD_hit e2 z).1 x hx
    refine ⟨e.val, v, ?_, rv, dv⟩
    unfold PySem.W.nsIn
    rw [kd.at_]
    simp only
    rw [h3]
  · have h3 := (dicD_hit e2 z).2 hz
    unfold PySem.W.nsIn
    rw [kd.at_]
    simp only
    rw [h3]
    simp only
    rw [if_neg (by rw [nr]; exact Bool.false_ne_true)]
end DD

set_option Elab.async false
set_option linter.all false
set_option maxRecDepth 100000
set_option maxHeartbeats 4000000
namespace DD
variable [TabQ] [ExQ]
open PySem PySem.Spec PyProof.Rows L2

section
variable {X : Cx} {d : Addr} {kvs : List (Str × D)}
def rInK (K : PySem.W.Frag) (d : Addr) : R2 := fun x y H Q => ∃ (z : Str) (r : Option Value), x = .str z ∧ y = .ref d ∧ PySem.W.nsIn K d z = some r ∧ Q (.bl r.isSome) H
def rNotInK (K : PySem.W.Frag) (d : Addr) : R2 := fun x y H Q => ∃ (z : Str) (r : Option Value), x = .str z ∧ y = .ref d ∧ PySem.W.nsIn K d z = some r ∧ Q (.bl (!r.isSome)) H
theorem op_inK (D : DictC X.K X.w d kvs) : OpR X (compareOp .In) (rInK X.K d) := let ⟨_, _, k, _⟩ := D.kd; op_in_kd k
theorem op_notInK (D : DictC X.K X.w d kvs) : OpR X (compareOp .NotIn) (rNotInK X.K d) := let ⟨_, _, k, _⟩ := D.kd; op_notIn_kd k
def rGetK (K : PySem.W.Frag) (d : Addr) : R2 := fun x y H Q => ∃ (z : Str) (u : Value) (v : V), x = .ref d ∧ y = .str z ∧ PySem.W.nsIn K d z = some (some u) ∧ RelV v u ∧ Q v H
theorem ix_getK (D : DictC X.K X.w d kvs) : IxR X (rGetK X.K d) := by
  obtain ⟨es, n, k, _⟩ := D.kd
  intro value slice pins s σ H x y v u Q I rx ry h hs
  obtain ⟨z, u0, v0, rfl, rfl, e, r, q⟩ := h
  exact ix_kdict value slice pins s σ H _ _ v u Q I rx ry ⟨d, z, v0, rfl, rfl, ⟨es, n, u0, k.at_, k.lit, e, r⟩, q⟩ hs
def rSortedK (d : Addr) (ks : List Str) : List V → Hp → VK → Prop := fun vs H Q => vs = [V.ref d] ∧ ∀ (p : Addr), H p = none → Q (.ref p) (upd H p (.lst ((sortS ks).map V.str)))
theorem keys_of : ∀ {l : List DictEntry} {ks : List Str} {P : Params}, l.map He.keyOf = He.keysIn P ks → l.length = ks.length ∧ ∀ (j : Nat) (e : DictEntry), l[j]? = some e → ∃ x t, ks[j]? = some x ∧ e.key = .str x t
  | [], [], _, _ => ⟨rfl, fun j e h => by simp at h⟩
  | [], _ :: _, _, h => by cases h
  | _ :: _, [], _, h => by cases h
  | e :: l, k :: ks, P, h => by
    have h1 : He.keyOf e :: l.map He.keyOf = some (k, PyData.keyHash P k) :: He.keysIn P ks := h
    injection h1 with h2 h3
    obtain ⟨i1, i2⟩ := keys_of h3
    refine ⟨by simp [i1], fun j e' he => ?_⟩
    cases j with
    | zero =>
      have : e = e' := by simpa using he
      subst this
      unfold He.keyOf at h2
      split at h2
      · rename_i x t q
        obtain ⟨h5, _⟩ := Prod.mk.inj (Option.some.inj h2)
        exact ⟨x, t, by rw [h5]; rfl, q⟩
      · cases h2
    | succ j =>
      obtain ⟨x, t, a, b⟩ := i2 j e' (by simpa using he)
      exact ⟨x, t, by simpa using a, b⟩
end
section
variable {K : PySem.W.Frag} {w : World} {d : Addr} {kvs : List (Str × D)}
def dInK (kvs : List (Str × D)) : D → Option D
  | .str z => some (.bool (kget kvs z).isSome)
  | _ => none
def dNotInK (kvs : List (Str × D)) : D → Option D
  | .str z => some (.bool (!(kget kvs z).isSome))
  | _ => none
def dGetK (kvs : List (Str × D)) : D → Option D
  | .str z => kget kvs z
  | _ => none
theorem DictC.any (C : DictC K w d kvs) (z : Str) : ∃ r, PySem.W.nsIn K d z = some r ∧ r.isSome = (kget kvs z).isSome := by
  cases e : kget kvs z with
  | none => exact ⟨none, C.miss z e, rfl⟩
  | some x =>
    obtain ⟨u, v, h, _⟩ := C.hit z x e
    exact ⟨some u, h, rfl⟩
theorem ev_inK {ta : TE} {ma : En → Option D} (C : DictC K w d kvs) (ha : ET K ta ma) : ET K (tOp (rInK K d) ta (tC (.ref d))) (mUn (dInK kvs) ma) := by
  refine ⟨fun {H0 T0 σ ρ H T y} G h Q q => ?_⟩
  obtain ⟨x, hx, h⟩ := bind_some h
  refine ha.run G hx _ fun v H1 s1 d1 p1 => ?_
  unfold dInK at h
  split at h
  · rename_i z
    cases h
    obtain ⟨r, e1, e2⟩ := C.any z
    refine ⟨z, r, dp_str p1, rfl, e1, ?_⟩
    rw [e2]
    exact q _ H1 s1 d1 (.bl _)
  · cases h
theorem ev_notInK {ta : TE} {ma : En → Option D} (C : DictC K w d kvs) (ha : ET K ta ma) : ET K (tOp (rNotInK K d) ta (tC (.ref d))) (mUn (dNotInK kvs) ma) := by
  refine ⟨fun {H0 T0 σ ρ H T y} G h Q q => ?_⟩
  obtain ⟨x, hx, h⟩ := bind_some h
  refine ha.run G hx _ fun v H1 s1 d1 p1 => ?_
  unfold dNotInK at h
  split at h
  · rename_i z
    cases h
    obtain ⟨r, e1, e2⟩ := C.any z
    refine ⟨z, r, dp_str p1, rfl, e1, ?_⟩
    rw [e2]
    exact q _ H1 s1 d1 (.bl _)
  · cases h
theorem ev_getK {ta : TE} {ma : En → Option D} (C : DictC K w d kvs) (ha : ET K ta ma) : ET K (tOp (rGetK K d) (tC (.ref d)) ta) (mUn (dGetK kvs) ma) := by
  refine ⟨fun {H0 T0 σ ρ H T y} G h Q q => ?_⟩
  obtain ⟨x, hx, h⟩ := bind_some h
  refine ha.run G hx _ fun v H1 s1 d1 p1 => ?_
  unfold dGetK at h
  split at h
  · rename_i z
    obtain ⟨u, v0, e1, r, g⟩ := C.hit z y h
    exact ⟨z, u, v0, rfl, dp_str p1, e1, r, q _ H1 s1 d1 (g _)⟩
  · cases h
def mSortedK (ks : List Str) : En → Option (List D) := fun _ => some ((sortS ks).map PyData.str)
theorem fl_sortedK {ks : List Str} : FL K (tCB (rSortedK d ks) (tCons (tC (.ref d)) tNil)) (mSortedK ks) := by
  refine ⟨fun {H0 T0 σ ρ H T out} G h Q q => ?_⟩
  cases h
  exact ⟨rfl, fun p np => q p _ H (Same.refl H) G.dis np (dpa_strs _)⟩

/-! ### l.index(x) -/
def dIndex (x y : D) : Option D := match x with
  | .list ds => if (SeqAt.shaped (.list ds) && SeqAt.shaped y) = true then (ds.findIdx? fun z => PyData.eqv z y).map fun j => .int (j : Nat) else none
  | _ => none
theorem ev_index {ta tb : TE} {ma mb : En → Option D} (ha : ET K ta ma) (hb : ET K tb mb) : ET K (tBM K "list" (rIndexD K) ta (tCons tb tNil)) (mOp dIndex ma mb) := by
  refine ⟨fun {H0 T0 σ ρ H T out} G h Q q => ?_⟩
  obtain ⟨x, hx, h⟩ := bind_some h
  obtain ⟨y, hy, h⟩ := bind_some h
  refine ha.run G hx _ fun v H1 s1 d1 p1 => ?_
  unfold dIndex at h
  split at h
  · rename_i _ ds _
    split at h
    · rename_i hs
      obtain ⟨h1, h2⟩ := Bool.and_eq_true_iff.mp hs
      obtain ⟨j, hj, h⟩ := map_some h
      subst h
      obtain ⟨a, us, rfl, hq, gu⟩ := dp_lst p1
      refine ⟨.inl ⟨rfl, us, sql_ov d1 hq⟩, ?_⟩
      refine hb.run (G.mono s1 d1) hy _ fun v2 H2 s2 d2 p2 => ?_
      obtain ⟨jl, j1, j2⟩ := List.findIdx?_eq_some_iff_getElem.mp hj
      refine ⟨a, v2, y, ds, j, ds[j], rfl, rfl, dp_ov d2 (dp_mono s2 (.lst hq gu)), dp_ov d2 p2, h1, h2, List.getElem?_eq_getElem jl, j1, fun m z hm hz => ?_, q _ H2 (s1.trans s2) d2 (.int _)⟩
      have ml : m < ds.length := Nat.lt_trans hm jl
      rw [List.getElem?_eq_getElem ml] at hz
      cases hz
      simpa using j2 m hm
    · cases h
  · cases h
end

/-! ### sorted(a dict of the top) -/
section
variable {X : Cx} {d : Addr} {kvs : List (Str × D)}
theorem pairs_of {P : Program} {w : World} : ∀ {l : List DictEntry} {ks : List Str}, l.map He.keyOf = He.keysIn w.params ks → Pairs (strKind P w) l (ks.zip (l.map (·.val)))
  | [], [], _ => .nil
  | [], _ :: _, h => by cases h
  | _ :: _, [], h => by cases h
  | e :: l, k :: ks, h => by
    have h1 : He.keyOf e :: l.map He.keyOf = some (k, PyData.keyHash w.params k) :: He.keysIn w.params ks := h
    injection h1 with h2 h3
    refine .cons ?_ rfl (pairs_of h3)
    unfold He.keyOf at h2
    split at h2
    · rename_i x t q
      obtain ⟨h5, _⟩ := Prod.mk.inj (Option.some.inj h2)
      rw [q, h5]
      exact strKind_is P w k t
    · cases h2
theorem strsAre_at : ∀ {vs : List Value} {ks : List Str}, vs.length = ks.length → (∀ (j : Nat) (v : Value), vs[j]? = some v → ∃ x t, ks[j]? = some x ∧ v = .str x t) → StrsAre vs ks
  | [], [], _, _ => .nil
  | [], _ :: _, h, _ => by simp at h
  | _ :: _, [], h, _ => by simp at h
  | v :: vs, k :: ks, h, g => by
    obtain ⟨x, t, e, rfl⟩ := g 0 v rfl
    have e2 : k = x := by simpa using e
    subst e2
    exact .cons k t (strsAre_at (by simpa using h) fun j u hu => by simpa using g (j + 1) u (by simpa using hu))
theorem cr_sortedK (C : DictC X.K X.w d kvs) (h64 : (kvs.map (·.1)).length < 64) (hnd : (kvs.map (·.1)).Nodup) (hcalm : X.calm = true) : CallR X (.builtin "sorted") (rSortedK d (kvs.map (·.1))) := by
  obtain ⟨es, n, k, ek⟩ := C.kd
  obtain ⟨hl, hat⟩ := keys_of ek
  intro pins s σ H xs us Q I r q
  obtain ⟨ex, q⟩ := q
  subst ex
  rw [Vals.ref1 r]
  have hle : (kvs.map (·.1)).length ≤ (es.toList.map (·.val)).length := by rw [List.length_map (as := es.toList), hl]; exact Nat.le_refl _
  have hlv : ((kvs.map (·.1)).zip (es.toList.map (·.val))).length = (kvs.map (·.1)).length := by rw [List.length_zip, List.length_map (as := es.toList), hl]; exact Nat.min_self _
  have da : s.heap.DictAt (strKind X.prog X.w) d ((kvs.map (·.1)).zip (es.toList.map (·.val))) n := by
    refine ⟨_, es, I.kIn d _ k.at_, ⟨rfl, rfl, rfl⟩, rfl, fun e he => ?_, pairs_of ek, ?_⟩
    · obtain ⟨x, t, e1, e2⟩ := PySem.W.KeysLit.all k.lit e (Array.mem_toList_iff.mpr he)
      exact ⟨x, by rw [e1]; exact strKind_is X.prog X.w x t, e2⟩
    · rw [List.map_fst_zip hle]
      exact hnd
  refine Calls.call_function_entry PyProof.Rows.kind_sorted PyProof.Rows.plain_sorted PyProof.Rows.entry_sorted (PyProof.Rows.args_sorted1 _) ?_
  unfold Builtin.«sorted»
  refine wpAny_bind (m := checkCount "sorted" 1 1 _) (wpAny_pure ?_)
  refine wpAny_bind (PySem.W.kdu_collect (A := X.A.in1) (PySem.W.kdl_dict (knd := strKind X.prog X.w) (ep := n) k.low) (I.ok.hd hcalm) da (by rw [hlv, sizeLine_eq]; omega) fun h' tk acc hk hacc => ?_)
  have al : acc.toList.length = (kvs.map (·.1)).length := by rw [Array.length_toList, hacc.1, hlv]
  have sa : StrsAre acc.toList (kvs.map (·.1)) := strsAre_at al fun j v e => by
    obtain ⟨z, x, e1, e2⟩ := hacc.2 j v (by rw [← Array.getElem?_toList]; exact e)
    obtain ⟨t, ev⟩ := Value.isStrOf_shape (x := z) (v := v) e2
    refine ⟨z, t, ?_, ev⟩
    have e3 : (((kvs.map (·.1)).zip (es.toList.map (·.val))).map (·.1))[j]? = some z := by rw [List.getElem?_map, e1]; rfl
    rw [List.map_fst_zip hle] at e3
    exact e3
  have I1 : Inv X pins σ H { s with heap := h', toks := tk } := I.kept hk
  refine wpAny_bind (wpAny_newList ?_ (by rw [al, sizeLine_eq]; omega))
  have at0 : (h'.push (seqObj "list" acc.toList.toArray 0)).get? h'.objs.size = some (seqObj "list" acc.toList.toArray 0) := Heap.get?_push_size _ rfl
  show wpAny _ _ _ _ _ { s with heap := h'.push (seqObj "list" acc.toList.toArray 0), toks := tk }
  refine wpAny_bind (wpAny_holding (wpAny_call_entry PyProof.Rows.slot_list_sort ⟨_, at0, rfl⟩ PyProof.Rows.entry_list_sort
    (list_sort_treeK strKind_oneLt (s := { s with heap := h'.push (seqObj "list" acc.toList.toArray 0), toks := tk }) at0 sa.keysOf (fun v₁ v₂ rest e => keyKind_strs (by rw [← e]; exact sa)) (by rw [al]; exact h64) fun st' hp hs => ⟨_, rfl, ?_⟩)
    (PyProof.Rows.args_list_sort _)))
  obtain ⟨ys, g1, g2, g3⟩ := sorted_out_str sa hp hs
  cases sortS_uniq g2 g3
  obtain ⟨e', he'⟩ := PyProof.Rows.sortedHeap_at (vs := acc.toList) (out := (arrOf st').map (·.2)) at0
  have hlen : ((sortS (kvs.map (·.1))).map V.str).length ≤ sizeLine := by rw [List.length_map, g2.length_eq, sizeLine_eq]; omega
  refine wpAny_pure ⟨_, rfl, .ref h'.objs.size, upd H h'.objs.size (.lst ((sortS (kvs.map (·.1))).map V.str)), I1.laid (t' := tk) (fun b u e => ?_) (Nat.le_refl _)
    (show ObjOk X.prog X.w _ _ _ (.lst ((sortS (kvs.map (·.1))).map V.str)) from ⟨hlen, ((arrOf st').map (·.2)).toList, e', vals_of_strs g1, by rw [Array.toArray_toList]; exact he'⟩), rfl, q _ (I1.hok.fresh (Nat.le_refl _))⟩
  have lt : b < h'.objs.size := Heap.lt_size e
  rw [PyProof.Rows.sortedHeap_old (Nat.ne_of_lt lt) (by rw [Heap.size_push]; exact Nat.lt_succ_of_lt lt)]
  exact Heap.get?_push_of_some _ e
end
end DD

set_option Elab.async false
set_option linter.all false
set_option maxRecDepth 100000
set_option maxHeartbeats 4000000
namespace DD
variable [TabQ] [ExQ]
open PySem PySem.Spec PyProof.Rows L2

/-! ### a comprehension of two clauses -/
def noOwn (ρ : En) : Bool := ρ.all fun s => match s with
  | some (.own _) => false
  | _ => true
theorem noOwn_get {ρ : En} (h : noOwn ρ = true) {i : Nat} {ds : List D} (e : ρ[i]? = some (some (Sl.own ds))) : False := by
  have := List.all_eq_true.mp h _ (List.mem_of_getElem? e)
  cases this
def coll2 (g : D → En → Option En) (c : En → Option Bool) (it1 : En → Option (List D)) (g1 : D → En → Option En) (c1 : En → Option Bool) (e : En → Option D) (vs1 : List Nat) (ρ : En) : List D → Option (List D)
  | [] => some []
  | d :: ds => (g d ρ).bind fun ρ1 => (c ρ1).bind fun b => if b = true then
      (if noOwn ρ1 = true then (it1 ρ1).bind fun ds1 => (coll g1 c1 e (wipeM ρ1 vs1) ds1).bind fun r1 => (coll2 g c it1 g1 c1 e vs1 ρ ds).map fun r => r1 ++ r else none)
    else coll2 g c it1 g1 c1 e vs1 ρ ds
def mLc2 (it : En → Option (List D)) (g : D → En → Option En) (c : En → Option Bool) (it1 : En → Option (List D)) (g1 : D → En → Option En) (c1 : En → Option Bool) (e : En → Option D) (vs vs1 : List Nat) : En → Option (List D) :=
  fun ρ => (it ρ).bind fun ds => (coll2 g c it1 g1 c1 e vs1 (wipeM ρ vs) ds).bind fun r => if r.length ≤ cap then some r else none
section
variable {K : PySem.W.Frag}
theorem Good.reput {H0 H : Hp} {T0 T : Ov} {σ : L2.St} {ρ : En} {p : Addr} {xs ys : List V} (G : Good K H0 T0 σ ρ H (put T p xs)) (no : noOwn ρ = true) (hT : T p = none) (hT0 : T0 p = none) (hH : H p = none) : Good K H0 T0 σ ρ H (put T p ys) := by
  refine ⟨G.len, G.val, fun i ds h => (noOwn_get no h).elim, fun i j ds es q h => (noOwn_get no h).elim, ⟨fun a zs e => ?_, G.dis.tab⟩, fun a zs e => ?_, G.ex, G.exc⟩
  · by_cases z : a = p
    · rw [z]; exact hH
    · rw [put_ne z] at e
      exact G.dis a zs (by rw [put_ne z]; exact e)
  · have z : a ≠ p := fun z => by rw [z, hT0] at e; cases e
    have := G.ext a zs e
    rw [put_ne z] at this ⊢
    exact this
theorem fl_lc2 {wi wi1 : TI} {g g1 : TG} {tt tt1 : TT} {te : TE} {vs vs1 : List Nat} {mi mi1 : En → Option (List D)} {mg mg1 : D → En → Option En} {mc mc1 : En → Option Bool} {me : En → Option D}
    (hi : IT K wi mi) (hg : TGm K vs g mg) (ht : TTm K tt mc) (hi1 : IT K wi1 mi1) (hg1 : TGm K vs1 g1 mg1) (ht1 : TTm K tt1 mc1) (he : ET K te me) : FL K (tLc2 wi g tt wi1 g1 tt1 te vs vs1) (mLc2 mi mg mc mi1 mg1 mc1 me vs vs1) := by
  refine ⟨fun {H0 T0 σ ρ H T out} G h Q q => ?_⟩
  obtain ⟨ds, hd, h⟩ := bind_some h
  obtain ⟨out0, h, hz⟩ := bind_some h
  split at hz
  · rename_i hz0
    cases hz
    refine hi.run G hd _ fun J Hm s1 d1 w => ?_
    intro Dl hD
    obtain ⟨nT, nH⟩ := ov_free hD
    have nT0 : T0 Dl = none := by
      cases e : T0 Dl with
      | none => rfl
      | some zs => rw [G.ext Dl zs e] at nT; cases nT
    have fr : ∀ {H' : Hp} {acc : List V}, Dis H' (put T Dl acc) → Dis H' T ∧ H' Dl = none := fun {H' acc} d => ⟨⟨fun a xs e => by
      by_cases z : a = Dl
      · rw [z, nT] at e; cases e
      · exact d a xs (by rw [put_ne z]; exact e), d.tab⟩, d Dl acc put_same⟩
    refine ⟨fun i m Hc => i ≤ ds.length ∧ m = ds.length - i ∧ ∃ H1 acc as r, Hc = ov H1 (put T Dl acc) ∧ Same Hm H1 ∧ Dis H1 T ∧ H1 Dl = none ∧ DpAll K H1 acc as ∧ coll2 mg mc mi1 mg1 mc1 me vs1 (wipeM ρ vs) (ds.drop i) = some r ∧ out = as ++ r,
      ⟨ds.length, Nat.zero_le _, rfl, Hm, [], [], out, by rw [upd_put], Same.refl Hm, d1, nH, .nil, h, rfl⟩, ?_⟩
    rintro i m Hc ⟨hil, rfl, H1, acc, as, r, rfl, sm, dis, nD, ga, hc, eo⟩
    have dput : Dis H1 (put T Dl acc) := dis_put dis nD
    by_cases hlt : i < ds.length
    · have hge : ds[i]? = some ds[i] := List.getElem?_eq_getElem hlt
      rw [List.drop_eq_getElem_cons hlt] at hc
      obtain ⟨ρ2, h2, hc⟩ := bind_some hc
      obtain ⟨b, hb, hc⟩ := bind_some hc
      refine .inr ⟨w.go i sm dput hlt, fun Hc' => ∃ H1 acc as r, Hc' = ov H1 (put T Dl acc) ∧ Same Hm H1 ∧ Dis H1 T ∧ H1 Dl = none ∧ DpAll K H1 acc as ∧ coll2 mg mc mi1 mg1 mc1 me vs1 (wipeM ρ vs) (ds.drop (i + 1)) = some r ∧ out = as ++ r,
        fun Hc' ⟨H1, acc, as, r, a1, a2, a3, a4, a5, a7, a8⟩ => ⟨ds.length - (i + 1), by omega, by omega, rfl, H1, acc, as, r, a1, a2, a3, a4, a5, a7, a8⟩, fun x Hc' y => ?_⟩
      obtain ⟨H2, rfl, s2, d2, p2⟩ := w.yld i sm dput hge y
      have G2 : Good K H0 T0 (L2.wipe σ vs) (wipeM ρ vs) H2 (put T Dl acc) := (((G.mono s1 d1).wipe vs).more hD).mono (sm.trans s2) d2
      refine hg.run G2 p2 h2 _ fun σ3 H3 G3 s3 w3 => ⟨by rw [w3, wipe_wipe], ?_⟩
      refine ht.run G3 hb _ fun H4 s4 d4 => ?_
      have G4 := G3.mono s4 d4
      cases b with
      | true =>
        rw [if_pos rfl] at hc ⊢
        split at hc
        · rename_i no
          obtain ⟨ds1, hd1, hc⟩ := bind_some hc
          obtain ⟨r1, hr1, hc⟩ := bind_some hc
          obtain ⟨r2, hr2, hc⟩ := map_some hc
          subst hc
          refine hi1.run G4 hd1 _ fun J1 Hn s5 d5 w1 => ?_
          have G5 := G4.mono s5 d5
          have sB : Same H1 Hn := s2.trans ((s3.trans s4).trans s5)
          obtain ⟨dT5, dn5⟩ := fr d5
          refine ⟨fun j k Hc => j ≤ ds1.length ∧ k = ds1.length - j ∧ ∃ H1 acc as r, Hc = ov H1 (put T Dl acc) ∧ Same Hn H1 ∧ Dis H1 T ∧ H1 Dl = none ∧ DpAll K H1 acc as ∧ coll mg1 mc1 me (wipeM ρ2 vs1) (ds1.drop j) = some r ∧ out = as ++ (r ++ r2),
            ⟨ds1.length, Nat.zero_le _, rfl, Hn, acc, as, r1, rfl, Same.refl Hn, dT5, dn5, dpa_mono sB ga, hr1, eo⟩, ?_⟩
          rintro j k Hc ⟨hjl, rfl, K1, ac, bs, rr, rfl, sk, dk, nk, gk, hk, ek⟩
          have dputk : Dis K1 (put T Dl ac) := dis_put dk nk
          by_cases hjt : j < ds1.length
          · have hje : ds1[j]? = some ds1[j] := List.getElem?_eq_getElem hjt
            rw [List.drop_eq_getElem_cons hjt] at hk
            obtain ⟨ρ6, h6, hk⟩ := bind_some hk
            obtain ⟨b1, hb1, hk⟩ := bind_some hk
            refine .inr ⟨w1.go j sk dputk hjt, fun Hc' => ∃ H1 acc as r, Hc' = ov H1 (put T Dl acc) ∧ Same Hn H1 ∧ Dis H1 T ∧ H1 Dl = none ∧ DpAll K H1 acc as ∧ coll mg1 mc1 me (wipeM ρ2 vs1) (ds1.drop (j + 1)) = some r ∧ out = as ++ (r ++ r2),
              fun Hc' ⟨H1, acc, as, r, a1, a2, a3, a4, a5, a7, a8⟩ => ⟨ds1.length - (j + 1), by omega, by omega, rfl, H1, acc, as, r, a1, a2, a3, a4, a5, a7, a8⟩, fun x6 Hc6 y6 => ?_⟩
            obtain ⟨K2, rfl, s6, d6, p6⟩ := w1.yld j sk dputk hje y6
            have G6 : Good K H0 T0 (L2.wipe σ3 vs1) (wipeM ρ2 vs1) K2 (put T Dl ac) := ((((G5.reput no nT nT0 dn5 (ys := ac)).mono sk dputk).mono s6 d6).wipe vs1)
            refine hg1.run G6 p6 h6 _ fun σ7 K3 G7 s7 w7 => ⟨by rw [w7, wipe_wipe], ?_⟩
            refine ht1.run G7 hb1 _ fun K4 s8 d8 => ?_
            have G8 := G7.mono s8 d8
            cases b1 with
            | true =>
              rw [if_pos rfl] at hk ⊢
              obtain ⟨z, hz2, hk⟩ := bind_some hk
              obtain ⟨r', hr', hk⟩ := map_some hk
              refine he.run G8 hz2 _ fun v K5 s9 d9 p9 => ?_
              obtain ⟨dT, dn⟩ := fr d9
              have sQ : Same K1 K5 := s6.trans ((s7.trans s8).trans s9)
              refine ⟨ac, ov_own put_same, ?_, K5, ac ++ [v], bs ++ [z], r', by rw [upd_put, put_put], sk.trans sQ, dT, dn, dpa_snoc (dpa_mono sQ gk) p9, hr', ?_⟩
              · refine cap_lt (Nat.le_trans ?_ hz0)
                rw [dpa_len gk, ek, List.length_append]
                omega
              · rw [ek, ← hk, List.append_assoc]
                rfl
            | false =>
              rw [if_neg Bool.false_ne_true] at hk ⊢
              obtain ⟨dT, dn⟩ := fr d8
              have sQ : Same K1 K4 := s6.trans (s7.trans s8)
              exact ⟨K4, ac, bs, rr, rfl, sk.trans sQ, dT, dn, dpa_mono sQ gk, hk, ek⟩
          · have e : j = ds1.length := by omega
            subst e
            rw [List.drop_length] at hk
            cases hk
            refine .inl ⟨w1.stop sk dputk, K1, ac, bs, r2, rfl, ?_, dk, nk, gk, hr2, ?_⟩
            · exact sm.trans (sB.trans sk)
            · rw [ek]; rfl
        · cases hc
      | false =>
        rw [if_neg Bool.false_ne_true] at hc ⊢
        obtain ⟨dT, dn⟩ := fr d4
        exact ⟨H4, acc, as, r, rfl, sm.trans (s2.trans (s3.trans s4)), dT, dn, dpa_mono (s2.trans (s3.trans s4)) ga, hc, eo⟩
    · have e : i = ds.length := by omega
      subst e
      rw [List.drop_length] at hc
      cases hc
      rw [List.append_nil] at eo
      subst eo
      refine .inl ⟨w.stop sm dput, ?_⟩
      rw [← upd_put]
      have hfree : ov H1 T Dl = none := by rw [ov_none nT]; exact nD
      exact q Dl acc H1 (s1.trans sm) dis hfree ga
  · cases hz
end
end DD

set_option Elab.async false
set_option linter.all false
set_option maxRecDepth 100000
set_option maxHeartbeats 4000000
namespace DD
variable [TabQ] [ExQ]
open PySem PySem.Spec PyProof.Rows L2
/-! ### a dict of the top, from what the top's heap shows -/
def keyS (e : DictEntry) : Option Str := match e.key with
  | .str x _ => some x
  | _ => none
def Ents (K : PySem.W.Frag) : List (Option Str × Value) → Option (List (Str × D))
  | [] => some []
  | (k, v) :: r => match k, deV K 3 v, Ents K r with
    | some x, some d, some ds => some ((x, d) :: ds)
    | _, _, _ => none
theorem ents_nil {K : PySem.W.Frag} : Ents K [] = some [] := rfl
theorem ents_cons {K : PySem.W.Frag} {k : Str} {v : Value} {d : D} {l : List (Option Str × Value)} {ds : List (Str × D)} (h : deV K 3 v = some d) (r : Ents K l = some ds) : Ents K ((some k, v) :: l) = some ((k, d) :: ds) := by
  unfold Ents
  rw [h, r]
theorem deV_tup {K : PySem.W.Frag} {a : Addr} {od : Option Addr} {its : Array Value} {n : Nat} {sl : Array (Option Value)} {ds : List D} (t : K.lookup a = some ⟨.type "tuple", od, .seq its n, sl⟩) (z : its.size ≤ 1000) (u : deVs (deV K 2) its.toList = some ds) : deV K 3 (.ref a) = some (.tuple ds) := by
  unfold deV
  rw [t]
  show (match decide ("tuple" = "tuple") && decide (its.size ≤ 1000) with
      | true => (deVs (deV K 2) its.toList).map PyData.tuple
      | false => none) = _
  rw [decide_eq_true z, u]
  rfl
theorem dicD_ents {K : PySem.W.Frag} : ∀ l : List DictEntry, dicD K l = Ents K (l.map fun e => (keyS e, e.val))
  | [] => rfl
  | e :: r => by
    unfold dicD
    show _ = Ents K ((keyS e, e.val) :: r.map fun e => (keyS e, e.val))
    unfold Ents
    rw [dicD_ents r]
    have : keyS e = (match e.key with
      | .str x _ => some x
      | _ => none) := rfl
    rw [this]
    cases e.key <;> cases deV K 3 e.val <;> cases Ents K (r.map fun e => (keyS e, e.val)) <;> rfl
theorem keys_lit {P : Params} : ∀ {l : List DictEntry} {L : List (Option Str × Value)} {K : PySem.W.Frag} {kvs : List (Str × D)}, PySem.W.KeysLit P l → l.map (fun e => (keyS e, e.val)) = L → Ents K L = some kvs → l.map He.keyOf = He.keysIn P (kvs.map (·.1))
  | [], L, K, kvs, _, h, g => by
    subst h
    cases g
    rfl
  | e :: r, L, K, kvs, y, h, g => by
    subst h
    obtain ⟨⟨x, t, e1, e2⟩, y2⟩ := y
    have g' : (match keyS e, deV K 3 e.val, Ents K (r.map fun e => (keyS e, e.val)) with
      | some x, some d, some ds => some ((x, d) :: ds)
      | _, _, _ => none) = some kvs := g
    have ke : keyS e = some x := by unfold keyS; rw [e1]
    rw [ke] at g'
    split at g'
    · rename_i x2 d ds q1 q2 q3
      cases q1
      cases g'
      have ih := keys_lit (K := K) y2 rfl q3
      show He.keyOf e :: r.map He.keyOf = some (x, PyData.keyHash P x) :: He.keysIn P (ds.map (·.1))
      rw [ih]
      have : He.keyOf e = some (x, PyData.keyHash P x) := by
        unfold He.keyOf
        rw [e1, e2]
      rw [this]
    · cases g'
theorem dictC_mk {K : PySem.W.Frag} {w : World} {a : Addr} {es : Array DictEntry} {n : Nat} {L : List (Option Str × Value)} {kvs : List (Str × D)} (l : K.lookup a = some ⟨.type "dict", none, .dict es n, #[]⟩) (y : PySem.W.KeysLit w.params es.toList) (z : (a == sysModules) = false)
    (v : es.toList.map (fun e => (keyS e, e.val)) = L) (g : Ents K L = some kvs) : DictC K w a kvs := by
  have kl := keys_lit y v g
  refine dictC_of (w := w) ?_ ?_
  · unfold He.dicW
    rw [l]
    show (match decide ("dict" = "dict") && ((#[] : Array (Option Value)).isEmpty && !(a == sysModules)) with
      | true => some (es.toList.map He.keyOf)
      | false => none) = _
    rw [z, kl]
    rfl
  · unfold dicAt
    rw [l]
    show dicD K es.toList = _
    rw [dicD_ents, v, g]
end DD

set_option Elab.async false
set_option linter.all false
namespace DD
variable [TabQ] [ExQ]
open PySem PySem.Spec PyProof.Rows L2
/-! ### a list + a list, both of any form -/
section
variable {K : PySem.W.Frag}
def mCatE (a b : En → Option D) : En → Option (List D) := fun ρ => (a ρ).bind fun x => (b ρ).bind fun y => match x, y with
  | .list xs, .list ys => if xs.length + ys.length ≤ cap then some (xs ++ ys) else none
  | _, _ => none
theorem fl_catE {ta tb : TE} {ma mb : En → Option D} (ha : ET K ta ma) (hb : ET K tb mb) : FL K (tOp (rCatX K) ta tb) (mCatE ma mb) := by
  refine ⟨fun {H0 T0 σ ρ H T out} G h Q q => ?_⟩
  obtain ⟨x, hx, h⟩ := bind_some h
  obtain ⟨y, hy, h⟩ := bind_some h
  refine ha.run G hx _ fun v H1 s1 d1 p1 => hb.run (G.mono s1 d1) hy _ fun v2 H2 s2 d2 p2 => ?_
  split at h
  · rename_i xs ys
    split at h
    · rename_i hz
      cases h
      obtain ⟨a, us, rfl, hs, gu⟩ := dp_lst (dp_mono s2 p1)
      obtain ⟨b, ws, rfl, hs2, gw⟩ := dp_lst p2
      exact ⟨a, b, us, ws, rfl, rfl, sql_ov d2 hs, sql_ov d2 hs2, by rw [dpa_len gu, dpa_len gw]; exact cap_line hz, fun p np => q p _ H2 (s1.trans s2) d2 np (dpa_append gu gw)⟩
    · cases h
  · cases h
end
end DD

set_option Elab.async false
set_option linter.all false
set_option maxRecDepth 100000
set_option maxHeartbeats 4000000
/-! sets of texts: made of a list, put in a row -/
namespace DD
variable [TabQ] [ExQ]
open PySem PySem.Spec PyProof.Rows L2
def txtOf : Value → Str
  | .str x _ => x
  | _ => ""
def addS (m : List Str) (k : Str) : List Str := if k ∈ m then m else k :: m
theorem addS_mem {m : List Str} {k z : Str} : z ∈ addS m k ↔ z ∈ m ∨ z = k := by
  unfold addS
  split
  · rename_i h
    exact ⟨.inl, fun q => q.elim id fun e => e ▸ h⟩
  · rw [List.mem_cons]; exact Or.comm
theorem addS_nd {m : List Str} {k : Str} (h : m.Nodup) : (addS m k).Nodup := by
  unfold addS
  split
  · exact h
  · exact List.nodup_cons.mpr ⟨by assumption, h⟩
theorem addS_len {m : List Str} {k : Str} : (addS m k).length ≤ m.length + 1 := by
  unfold addS
  split
  · omega
  · rw [List.length_cons]; omega
section
variable {P : Program} {w : World}
/-- the set of texts at a: its members m, each once; it can be walked -/
def TxS (P : Program) (w : World) (h : Heap) (a : Addr) (m : List Str) : Prop :=
  ∃ o es ep t, h.get? a = some o ∧ o.ExactSet ∧ o.data = .set es ep t ∧ ElemsOf (PySem.strKind P w) es.toList ∧ (es.toList.map fun e => txtOf e.2).Perm m ∧ m.Nodup ∧
    es.size < scanBound ∧ t.fits es.size = true ∧ Ris t.place.toList ∧ (w.params.followText "set-order" = true ∨ t.led = true)
theorem TxS.at {h h' : Heap} {a : Addr} {m : List Str} (R : TxS P w h a m) (k : ∀ o, h.get? a = some o → h'.get? a = some o) : TxS P w h' a m := by
  obtain ⟨o, es, ep, t, ho, r⟩ := R
  exact ⟨o, es, ep, t, k o ho, r⟩
theorem tx_is {k : Str} {v : Value} (h : (PySem.strKind P w).is k v = true) : ∃ t, v = .str k t := Value.isStrOf_shape h
theorem tx_of {l : List (Int × Value)} (g : ElemsOf (PySem.strKind P w) l) {e : Int × Value} (he : e ∈ l) (k : Str) : (PySem.strKind P w).is k e.2 = true ↔ txtOf e.2 = k := by
  obtain ⟨⟨k0, h0, _⟩, _⟩ := g e he
  obtain ⟨t, q⟩ := tx_is h0
  rw [q]
  constructor
  · intro z
    obtain ⟨t2, q2⟩ := tx_is z
    cases q2
    rfl
  · intro z
    have z' : k0 = k := z
    subst z'
    exact PySem.strKind_is P w _ t
theorem tx_mem {l : List (Int × Value)} {m : List Str} (g : ElemsOf (PySem.strKind P w) l) (pm : (l.map fun e => txtOf e.2).Perm m) (k : Str) : k ∈ m ↔ ∃ e ∈ l, (PySem.strKind P w).is k e.2 = true := by
  rw [← pm.mem_iff, List.mem_map]
  exact ⟨fun ⟨e, he, q⟩ => ⟨e, he, (tx_of g he k).2 q⟩, fun ⟨e, he, q⟩ => ⟨e, he, (tx_of g he k).1 q⟩⟩
theorem tx_new {h : Heap} {a : Addr} (ho : h.get? a = some (set0 w)) : TxS P w h a [] := by
  refine ⟨_, #[], 0, _, ho, ⟨rfl, rfl, rfl⟩, rfl, fun e he => ?_, ?_, List.nodup_nil, by decide, by rfl, List.Pairwise.nil, ?_⟩
  · simp at he
  · exact List.Perm.refl _
  · show _ ∨ (!w.params.followText "set-order") = true
    cases w.params.followText "set-order" with
    | true => exact .inl rfl
    | false => exact .inr rfl
end
section
variable {P : Program} {w : World} {A : Around} {E : Value → Shared → Prop} {s : Shared} {a : Addr}
theorem put_at {h : Heap} {o : Obj} {es es' : Array (Int × Value)} {ep : Nat} {t t' : SetTable} (ho : h.get? a = some o) (hd : o.data = .set es ep t) :
    (h.update a (Obj.putSet es' t')).get? a = some { o with data := .set es' (ep + 1) t' } := by
  have e1 := putSet_of es' t' hd
  have e2 := Heap.get?_update_self (Obj.putSet es' t') ho (by rw [e1]; rfl)
  rw [e1] at e2; exact e2
/-- the new member is laid, the table made wider where it is too full -/
theorem tx_laid {gv : Bool → Sem Unit} (hg : ∀ (b : Bool) (s₁ : Shared) (Q' : Unit → Shared → Prop), Q' () s₁ → wpAny (model P w) A (gv b) Q' E s₁)
    {o : Obj} {es es1 : Array (Int × Value)} {ep : Nat} {t t2 : SetTable} {m : List Str} (ho : s.heap.get? a = some o) (hex : o.ExactSet) (hd : o.data = .set es ep t)
    (g1 : ElemsOf (PySem.strKind P w) es1.toList) (pm1 : (es1.toList.map fun e => txtOf e.2).Perm m) (nd : m.Nodup) (hb1 : es1.size < scanBound) (hf2 : t2.fits es1.size = true) (hr : Ris t2.place.toList)
    (hl : w.params.followText "set-order" = true ∨ t2.led = true) {wasD : Bool} {R : Option Bool → Shared → Prop} (hR : ∀ h', Heap.SameBut a s.heap h' → TxS P w h' a m → R (some true) { s with heap := h' }) :
    wpAny (model P w) A (do
        storeSet a es1 t2
        if (!wasD && t2.tooFull) = true then do
            gv (relayAll t2 es1 (SetTable.grown es1.size)).2.2
            storeSet a (relayAll t2 es1 (SetTable.grown es1.size)).1 (relayAll t2 es1 (SetTable.grown es1.size)).2.1
            pure (some true)
          else pure (some true)) R E s := by
  refine wpAny_bind (wpAny_storeSet_of ho hd ?_ (fits_of_scanBound hb1))
  have ho1 := put_at (es' := es1) (t' := t2) ho hd
  have sb := Heap.SameBut.update s.heap a (Obj.putSet es1 t2)
  split
  · have q1 := relayAll_perm t2 es1 (SetTable.grown es1.size)
    have q2 := relayAll_fits t2 es1 (SetTable.grown es1.size)
    have q3 := L2.relayAll_ris t2 es1 (SetTable.grown es1.size)
    have q4 := L2.relayAll_led t2 es1 (SetTable.grown es1.size)
    generalize relayAll t2 es1 (SetTable.grown es1.size) = W at q1 q2 q3 q4 ⊢
    obtain ⟨es2, t3, gave⟩ := W
    simp only at q1 q2 q3 q4 ⊢
    have hz : es2.size = es1.size := by rw [← Array.length_toList, q1.length_eq, Array.length_toList]
    have hb2 : es2.size < scanBound := by rw [hz]; exact hb1
    refine wpAny_bind (hg _ _ _ (wpAny_bind (wpAny_storeSet_of ho1 rfl ?_ (fits_of_scanBound hb2))))
    refine wpAny_pure (hR _ (sb.trans (Heap.SameBut.update _ a _)) ⟨_, es2, _, t3, put_at (es' := es2) (t' := t3) ho1 rfl, hex, rfl, g1.perm q1, (q1.map _).trans pm1, nd, hb2, q2, q3, hl.imp id fun z => by rw [q4]; exact z⟩)
  · exact wpAny_pure (hR _ sb ⟨_, es1, _, t2, ho1, hex, rfl, g1, pm1, nd, hb1, hf2, hr, hl⟩)
theorem tx_add {m : List Str} {k : Str} {tk : Tok} {Q : Bool → Shared → Prop} (R : TxS P w s.heap a m) (room : m.length + 1 < scanBound)
    (hQ : ∀ b h', Heap.SameBut a s.heap h' → TxS P w h' a (addS m k) → Q b { s with heap := h' }) :
    wpAny (model P w) A (setAddHashed a (.str k tk) ((PySem.strKind P w).hash k)) Q E s := by
  obtain ⟨o, es, ep, t, ho, hex, hd, g, pm, nd, hb, hf, hr, hl⟩ := R
  have hkey : (PySem.strKind P w).is k (.str k tk) = true := PySem.strKind_is P w k tk
  have hsc : (Value.str k tk).scannable = true := rfl
  unfold setAddHashed; unfold setAddHashedIn
  refine wpAny_holding (wpAny_bind (wpAny_setState_of ho hd hf ?_))
  simp only [byScan_of hsc hb g, ↓reduceIte]; unfold setAddByScan
  refine wpAny_bind (wpAny_bind (wpAny_rule (wpAny_bind (wpAny_setScan_of hkey ho hd hf g ?_))))
  cases hfi : List.findIdx? (fun e => (PySem.strKind P w).is k e.2) es.toList with
  | some j =>
    simp only
    obtain ⟨hj, pj, _⟩ := List.findIdx?_eq_some_iff_getElem.mp hfi
    have hin : k ∈ m := (tx_mem g pm k).2 ⟨es.toList[j], List.getElem_mem hj, pj⟩
    refine wpAny_pure (wpAny_pure (hQ _ s.heap (Heap.SameBut.refl a s.heap) ⟨o, es, ep, t, ho, hex, hd, g, ?_, addS_nd nd, hb, hf, hr, hl⟩))
    unfold addS; rw [if_pos hin]; exact pm
  | none =>
    simp only
    have hnk : k ∉ m := fun z => by
      obtain ⟨e, he, q⟩ := (tx_mem g pm k).1 z
      exact absurd (List.findIdx?_eq_none_iff.mp hfi e he) (by rw [q]; decide)
    have hgv : ∀ (b : Bool) {s₁ : Shared} {Q' : Unit → Shared → Prop}, Q' () s₁ → wpAny (model P w) A (match b with | true => rule "set.scan.the-table-gave-way" | false => pure ()) Q' E s₁ := fun b => by
      intro s₁ Q' q
      cases b with
      | true => exact wpAny_rule q
      | false => exact wpAny_pure q
    have q1 := layNew_perm t es ((PySem.strKind P w).hash k) (.str k tk)
    have q2 := layNew_fits t es ((PySem.strKind P w).hash k) (.str k tk)
    have q3 := L2.layNew_ris t es ((PySem.strKind P w).hash k) (.str k tk) hr
    have q4 := L2.layNew_led t es ((PySem.strKind P w).hash k) (.str k tk)
    generalize layNew t es ((PySem.strKind P w).hash k) (.str k tk) = W at q1 q2 q3 q4 ⊢
    obtain ⟨es1, t1, wasD, gave⟩ := W
    simp only at q1 q2 q3 q4 ⊢
    rw [Array.toList_push] at q1
    have g1 : ElemsOf (PySem.strKind P w) es1.toList := (g.push hkey hsc).perm q1
    have pm1 : (es1.toList.map fun e => txtOf e.2).Perm (addS m k) := by
      have z := q1.map fun e => txtOf e.2
      rw [List.map_append] at z
      unfold addS; rw [if_neg hnk]
      exact z.trans ((List.perm_append_singleton _ _).trans (pm.cons k))
    have hz : es1.size = m.length + 1 := by
      rw [← Array.length_toList, q1.length_eq, List.length_append]
      have := pm.length_eq
      rw [List.length_map] at this
      rw [this]; rfl
    have hb1 : es1.size < scanBound := by rw [hz]; exact room
    have hled : w.params.followText "set-order" = true ∨ t1.led = true := hl.imp id fun z => by rw [q4]; exact z
    refine wpAny_bind (hgv _ ?_)
    split
    · refine wpAny_bind ?_
      rw [hashByValue_scannable 8 hsc]
      refine wpAny_pure (tx_laid ?_ ho hex hd g1 pm1 (addS_nd nd) hb1 ?_ ?_ ?_ ?_)
      · intro b s₁ Q' q; exact hgv b q
      · first | (split <;> first | exact q2 | exact SetTable.fits_plain_off q2) | exact q2
      · first | (split <;> exact q3) | exact q3
      · first | (split <;> exact hled) | exact hled
      · intro h' sb r; simp only; exact wpAny_pure (hQ _ h' sb r)
    · refine wpAny_bind (wpAny_pure ?_)
      simp only [↓reduceIte]
      refine tx_laid ?_ ho hex hd g1 pm1 (addS_nd nd) hb1 q2 q3 hled ?_
      · intro b s₁ Q' q; exact hgv b q
      · intro h' sb r; simp only; exact wpAny_pure (hQ _ h' sb r)
end
def nubS (xs : List Str) : List Str := xs.foldl addS []
theorem nubS_snoc (xs : List Str) (k : Str) : nubS (xs ++ [k]) = addS (nubS xs) k := by unfold nubS; rw [List.foldl_append]; rfl
section
variable {P : Program} {w : World} {A : Around} {E : Value → Shared → Prop} {s : Shared}
theorem tx_loop {I : Addr} {fp wr : List Addr} {G : Array GenState → Array GenState → Prop} {n : Nat} {Pv : Nat → Value → Prop} {St : Nat → Shared → Prop} {R : Result → Shared → Prop}
    (W : WalksS P w A.in1 I fp wr G n Pv St) (S : Addr) (hSf : S ∉ fp) (xs : List Str) (hn : n = xs.length) (hb : xs.length + 1 < scanBound) (hval : ∀ i v, Pv i v → ∃ k t, xs[i]? = some k ∧ v = .str k t) :
    ∀ (k i : Nat) (s : Shared), n - i = k → i ≤ n → St i s → (nubS (xs.take i)).length ≤ i → TxS P w s.heap S (nubS (xs.take i)) →
      (∀ s', Moved (S :: wr) G s s' → TxS P w s'.heap S (nubS xs) → (nubS xs).length ≤ n → R (.ok (.ret .none)) s') →
      codeAny (model P w) A (.builtin "set.update.loop" ⟨[.ref S, .ref I], []⟩) R s := by
  have hSw : S ∉ wr := fun h => hSf (W.sub _ h)
  have hsub : ∀ b ∈ wr, b ∈ S :: wr := fun b hb => List.mem_cons_of_mem _ hb
  intro k
  induction k with
  | zero =>
    intro i s hk hi hst hc hS hR
    have hin : i = n := by omega
    subst hin
    refine codeAny_builtin F.entry_set_update_loop ?_
    rw [Around.under_plainId F.plain_set_update_loop _]
    have e : xs.take i = xs := List.take_of_length_le (by omega)
    rw [e] at hS hc
    refine wpAny_bind (m := pyNext (.ref I)) (W.done s _ _ hst fun s' hm => ?_)
    exact wpAny_pure (hR s' (hm.mono hsub) (hS.at fun o e => hm.heap S o hSw e) hc)
  | succ k ih =>
    intro i s hk hi hst hc hS hR
    have hlt : i < n := by omega
    refine codeAny_builtin F.entry_set_update_loop ?_
    rw [Around.under_plainId F.plain_set_update_loop _]
    refine wpAny_bind (m := pyNext (.ref I)) (W.item i s _ _ hlt hst fun v s' hP hst' hm => ?_)
    obtain ⟨z, t, hz, rfl⟩ := hval i v hP
    have hS' : TxS P w s'.heap S (nubS (xs.take i)) := hS.at fun o e => hm.heap S o hSw e
    refine wpAny_bind (m := holding [Value.str z t] (setAdd S (.str z t))) (wpAny_holding ?_)
    unfold setAdd
    refine wpAny_holding (wpAny_bind ((PySem.strKind P w).pyHash (k := z) (PySem.strKind_is _ _ _ _) ?_))
    refine tx_add (s := { s' with toks := s'.toks + 1 }) hS' (by omega) fun b h' sb hS2 => ?_
    have e1 : xs.take (i + 1) = xs.take i ++ [z] := by rw [List.take_add_one, hz]; rfl
    have hS3 : TxS P w h' S (nubS (xs.take (i + 1))) := by rw [e1, nubS_snoc]; exact hS2
    have hc3 : (nubS (xs.take (i + 1))).length ≤ i + 1 := by
      rw [e1, nubS_snoc]
      exact Nat.le_trans addS_len (by omega)
    refine wpAny_pure ⟨plainId_quiet F.plain_set_update_loop _, ih (i + 1) _ (by omega) hlt (W.frame _ s' _ _ hst' (Nat.le_succ _) fun b hb o e => ?_) hc3 hS3 fun s'' hm2 hS4 hc4 => ?_⟩
    · exact (sb.2 b fun h : b = S => hSf (h ▸ hb)).trans e
    · refine hR s'' (Moved.trans W.gtrans ((hm.mono hsub).then_heap (Nat.le_succ _) fun b o hb e => ?_) hm2) hS4 hc4
      exact (sb.2 b fun h : b = S => hb (h ▸ List.mem_cons_self)).trans e
theorem strs_nth : ∀ {us : List Value} {ys : List Str}, StrsAre us ys → ∀ (i : Nat) (v : Value), us[i]? = some v → ∃ t, v = .str (ys.getD i Str.empty) t
  | _, _, .nil, i, v, h => by simp at h
  | _, _, .cons x t _, 0, v, h => by
    simp at h
    exact ⟨t, by rw [← h]; rfl⟩
  | _, _, .cons x t r, i + 1, v, h => by
    obtain ⟨t2, q⟩ := strs_nth r i v (by simpa using h)
    exact ⟨t2, by rw [q]; rfl⟩
/-- the step that fills the new set from the list of texts at l -/
theorem fillTx {h0 : Heap} {l : Addr} {items : Array Value} (xs : List Str) (hh : A.handled = none) (hl : (h0.push (set0 w)).IsList l items) (hlt : l < h0.objs.size) (hi : StrsAre items.toList xs) (hb : xs.length + 1 < scanBound) {R : Result → Shared → Prop} {t : Shared} (ht : t.heap = h0.push (set0 w))
    (h : ∀ (h' : Heap) (tk : Nat), TxS P w h' h0.objs.size (nubS xs) → (nubS xs).length ≤ xs.length → (∀ b o, h0.get? b = some o → h'.get? b = some o) → R (.ok (.ret .none)) { t with heap := h', toks := tk }) :
    codeAny (model P w) A.in1.in1 (.builtin "set.update.loop" ⟨[.ref h0.objs.size, .ref (h0.push (set0 w)).objs.size], []⟩) R { t with heap := (h0.push (set0 w)).push { cls := .type "list_iterator", data := .fields #[.ref l, .int 0 0] } } := by
  have size1 : (h0.push (set0 w)).objs.size = h0.objs.size + 1 := Heap.size_push ..
  have len : items.size = xs.length := by
    have q := StrsAre.length hi
    rwa [Array.length_toList] at q
  have ne1 : l ≠ (h0.push (set0 w)).objs.size := by rw [size1]; exact Nat.ne_of_lt (Nat.lt_succ_of_lt hlt)
  have out : h0.objs.size ∉ [(h0.push (set0 w)).objs.size, l] := by
    rw [size1]
    intro m
    simp only [List.mem_cons, List.not_mem_nil, or_false] at m
    rcases m with m | m
    · exact absurd m (Nat.ne_of_lt (Nat.lt_succ_self _))
    · exact absurd m (Nat.ne_of_gt hlt)
  have at0 : ((h0.push (set0 w)).push { cls := .type "list_iterator", data := .fields #[.ref l, .int 0 0] }).get? h0.objs.size = some (set0 w) := Heap.get?_push_of_some _ (Heap.get?_push_size _ rfl)
  refine tx_loop (P := P) (w := w) ((Walks.list (A := A.in1.in1.in1) (by simpa using hh) _ l ne1 items).toS) h0.objs.size out xs len hb (fun i v e => ?_) (items.size - 0) 0 _ (by omega) (Nat.zero_le _)
    ⟨⟨_, Heap.get?_push_size _ rfl, rfl, rfl⟩, hl.push _⟩ (Nat.le_refl 0) (tx_new at0) fun s' hm hS hc => ?_
  · obtain ⟨tk, e2⟩ := strs_nth hi i v (by rw [Array.getElem?_toList]; exact e)
    have hil : i < xs.length := by rw [← len]; exact (Array.getElem?_eq_some_iff.mp e).1
    refine ⟨xs[i], tk, List.getElem?_eq_getElem hil, ?_⟩
    rw [e2, List.getD_eq_getElem?_getD, List.getElem?_eq_getElem hil]
    rfl
  · obtain ⟨h', g', d', tk', os'⟩ := s'
    obtain rfl : g' = t.gens := hm.gens
    obtain rfl : d' = t.drawn := hm.drawn
    obtain rfl : os' = t.os := hm.os
    refine h h' tk' hS (by rw [← len]; exact hc) fun b o e => hm.heap b o ?_ (Heap.get?_push_of_some _ (Heap.get?_push_of_some _ e))
    have lt := Heap.lt_size e
    rw [size1]
    intro m
    simp only [List.mem_cons, List.not_mem_nil, or_false] at m
    rcases m with m | m
    · exact absurd m (Nat.ne_of_lt lt)
    · exact absurd m (Nat.ne_of_lt (Nat.lt_succ_of_lt lt))
theorem call_setTx {l : Addr} {items : Array Value} (xs : List Str) {Q : Value → Shared → Prop} (hh : A.handled = none) (hl : s.heap.IsList l items) (hit : StrsAre items.toList xs) (hb : xs.length + 1 < scanBound)
    (h : ∀ (h' : Heap) (tk : Nat), TxS P w h' s.heap.objs.size (nubS xs) → (nubS xs).length ≤ xs.length → (∀ b o, s.heap.get? b = some o → h'.get? b = some o) → Q (.ref s.heap.objs.size) { s with heap := h', toks := tk }) :
    wpAny (model P w) A (call (.type "set") [.ref l]) Q E s := by
  obtain ⟨c0, tl, hmro⟩ := F.called_set.mro
  have h0 := F.called_set.made
  have h1 := F.called_set.notType
  have h2 := F.called_set.canCreate
  have h3 := F.called_set.sub
  have h4 := F.typeCall_set_1 (.ref l)
  refine wpAny_call (codeAny_of_tree (show wpAny _ _ (callAny (.type "set") _) _ _ _ from wpAny_pure ⟨Code.quiet_builtin _ (by decide +kernel), codeAny_builtin F.entry_type_call ?_⟩))
  rw [Around.under_plain (weight_type_call_type "set" [.ref l] []) rfl]
  repeat (any_goals (first | assumption | wp_step))
  refine codeAny_mono (code_set_led1 (.ref l) (E := E) (Q₁ := fun obj s₁ => obj = .ref s.heap.objs.size ∧ s₁ = { s with heap := s.heap.push (set0 w) }) ⟨rfl, rfl⟩) fun r s₁ hr => ?_
  cases r with
  | error e => exact hr
  | ok fl =>
    cases fl with
    | ret obj =>
      obtain ⟨rfl, rfl⟩ := hr
      have at0 : (s.heap.push (set0 w)).get? s.heap.objs.size = some (set0 w) := Heap.get?_push_size _ rfl
      have ty : Shared.TypeIs { s with heap := s.heap.push (set0 w) } (.ref s.heap.objs.size) "set" := ⟨_, at0, rfl⟩
      have h5 := F.called_set.init.lookup
      have h6 := F.called_set.init.bind (.ref s.heap.objs.size)
      repeat (any_goals (first | assumption | wp_step))
      refine codeAny_mono (codeAny_call_builtin (R := wants (fun r s₂ => r = .none ∧ ∃ h' tk, s₂ = { s with heap := h', toks := tk } ∧ TxS P w h' s.heap.objs.size (nubS xs) ∧ (nubS xs).length ≤ xs.length ∧
          (∀ b o, s.heap.get? b = some o → h'.get? b = some o)) E) F.called_set.init.plain F.entry_set_init (check_set_init_1 ty ?_)) fun r₂ s₂ hr₂ => ?_
      · obtain ⟨⟨ocls, odict, odata, oslots⟩, hol, hcl, nl, hdl⟩ := hl
        simp only at hcl hdl
        subst hcl hdl
        have hol' : (s.heap.push (set0 w)).get? l = some { cls := .type "list", dict := odict, data := .seq items nl, slots := oslots } := Heap.get?_push_of_some _ hol
        have h7 := F.sub_list_set
        have h8 := F.sub_list_frozenset
        have h9 : (Value.type "list" == Value.type "dict") = false := by decide
        have hL : (s.heap.push (set0 w)).IsList l items := ⟨_, hol', rfl, nl, rfl⟩
        unfold Builtin.«set.__init__» noKeywords Builtin.Frozenset.updateFrom
        generalize hPI : pyIter = PI
        wp_walk
        subst hPI
        refine wpAny_pyIter_list hL (wpAny_bind (wpAny_runValue ?_))
        refine fillTx (A := A) (t := { s with heap := s.heap.push (set0 w) }) xs hh hL (Heap.lt_size hol) hit hb rfl fun h' tk hS hc hk => ?_
        refine wpAny_pure ?_
        show wpAny _ _ (ret Value.none) _ _ _
        exact wpAny_pure ⟨rfl, h', tk, rfl, hS, hc, hk⟩
      · cases r₂ with
        | error e => exact hr₂
        | ok fl₂ =>
          cases fl₂ with
          | ret r =>
            obtain ⟨rfl, h', tk, rfl, hS, hc, hk⟩ := hr₂
            repeat (any_goals (first | assumption | wp_step))
            exact h _ _ hS hc hk
          | _ => exact hr₂.elim
    | _ => exact hr.elim
/-- the members as texts -/
theorem strs_vals : ∀ {vs : List Value}, (∀ v ∈ vs, ∃ k t, v = Value.str k t) → StrsAre vs (vs.map txtOf)
  | [], _ => .nil
  | v :: r, h => by
    obtain ⟨k, t, rfl⟩ := h v List.mem_cons_self
    exact .cons k t (strs_vals fun u hu => h u (List.mem_cons_of_mem _ hu))
/-- sorted(set of texts) -/
theorem sortTx {a : Addr} {m : List Str} {Q : Value → Shared → Prop} (R : TxS P w s.heap a m) (hh : A.handled = none) (h64 : m.length < 64)
    (hQ : ∀ s' p (out : Array Value) (c : Nat), (∀ b o, s.heap.get? b = some o → s'.heap.get? b = some o) → s'.gens = s.gens → s'.os = s.os → s.heap.objs.size ≤ p →
      s'.heap.get? p = some (seqObj "list" out c) → StrsAre out.toList (sortS m) → Q (.ref p) s') :
    wpAny (model P w) A (call (.builtin "sorted") [.ref a]) Q E s := by
  obtain ⟨o, es, ep, t, ho, hex, hd, g, pm, nd, hb, hf, hr, hl⟩ := R
  refine Calls.call_function_entry kind_sorted plain_sorted entry_sorted (args_sorted1 _) ?_
  unfold Builtin.«sorted»
  refine wpAny_bind (m := checkCount "sorted" 1 1 _) (wpAny_pure (wpAny_bind (L2.collect_set (A := A.in1) hh ⟨o, ho, hex.1, hd⟩ hf hb hr hl fun s1 vs k1 hz g1 o1 pv => ?_)))
  have len : vs.length = m.length := by
    have q := pm.length_eq
    rw [List.length_map] at q
    rw [pv.length_eq, List.length_map, q]
  have hS : StrsAre vs (vs.map txtOf) := strs_vals fun v hv => by
    obtain ⟨e, he, q⟩ := List.mem_map.mp (pv.mem_iff.mp hv)
    obtain ⟨⟨k, hk, _⟩, _⟩ := g e he
    obtain ⟨t0, q2⟩ := tx_is hk
    exact ⟨k, t0, by rw [← q]; exact q2⟩
  have pk : (vs.map txtOf).Perm m := by
    have q := pv.map txtOf
    rw [List.map_map] at q
    exact q.trans pm
  refine wpAny_bind (wpAny_newList ?_ (by rw [len, sizeLine_eq]; omega))
  have hoL : (s1.heap.push (seqObj "list" vs.toArray 0)).get? s1.heap.objs.size = some (seqObj "list" vs.toArray 0) := Heap.get?_push_size _ rfl
  refine wpAny_bind (wpAny_holding (wpAny_call_entry PyProof.Rows.slot_list_sort ⟨_, hoL, rfl⟩ PyProof.Rows.entry_list_sort
    (list_sort_treeK strKind_oneLt (s := { s1 with heap := s1.heap.push (seqObj "list" vs.toArray 0) }) hoL hS.keysOf (fun v₁ v₂ rest e => keyKind_strs (by rw [← e]; exact hS)) (by rw [len]; exact h64) fun st' hp hs => ⟨_, rfl, ?_⟩)
    (PyProof.Rows.args_list_sort _)))
  obtain ⟨ys, u1, u2, u3⟩ := sorted_out_str hS hp hs
  obtain ⟨c, hc⟩ := sortedHeap_at (vs := vs) (out := (arrOf st').map (·.2)) hoL
  cases sortS_uniq (u2.trans pk) u3
  refine wpAny_pure ⟨_, rfl, hQ _ s1.heap.objs.size _ c (fun b u e => ?_) g1 o1 hz hc (by simpa using u1)⟩
  have q := k1 b u e
  have hlt := Heap.lt_size q
  show (sortedHeap (s1.heap.push (seqObj "list" vs.toArray 0)) s1.heap.objs.size vs ((arrOf st').map (·.2))).get? b = some u
  rw [sortedHeap_old (Nat.ne_of_lt hlt) (by rw [size_push']; exact Nat.lt_succ_of_lt hlt)]
  exact Heap.get?_push_of_some _ q
end
/-- the texts of a list, each once, rising -/
def ssetS (xs : List Str) : List Str := sortS (nubS xs)
section
variable {X : Cx}
def tSortTx (K : PySem.W.Frag) (ta : TE) : TE := fun σ H Q => ta σ H fun x H1 => ∃ (l : Addr) (xs : List Str), x = V.ref l ∧ SqL K H1 l (xs.map V.str) ∧ xs.length < 63 ∧ ∀ p, H1 p = none → Q (.ref p) (upd H1 p (.lst ((ssetS xs).map V.str)))
theorem pe_sortTx {a : Expr} {ta : TE} {p p2 q pos : Pos} (hg : Gl X "sorted") (hm : X.mg "sorted" = none) (hg2 : Gl X "set") (hm2 : X.mg "set" = none) (ha : PE X a ta) (hc : X.calm = true := by rfl)
    (na : starEach [a] X.env = (false, eval a X.env) :: starEach [] X.env := by rfl) : PE X (.Call (.Name "sorted" p) [.Call (.Name "set" p2) [a] [] q] [] pos) (tSortTx X.K ta) := by
  refine ⟨fun pins s σ H Q I h => ?_⟩
  refine Call_ (ld_blt I hg hm (by boot_by_name) ?_)
  refine PyProof.Rows.callWith_builtin1 (PyProof.Rows.args_cons ?_ rfl) rfl rfl
  refine Call_ (ld_blt I hg2 hm2 boot_set ?_)
  refine PyProof.Rows.callWith_type1 (PyProof.Rows.args_cons (thn (ha.run pins s σ H _ I h) fun v s1 ⟨x, H1, I1, r1, q1⟩ => PyProof.Rows.args_nil ?_) na) na rfl
  obtain ⟨l, xs, rfl, hq, hl, q1⟩ := q1
  cases r1
  obtain ⟨its, r, pl, hz⟩ := I1.list hq
  refine call_setTx (P := X.prog) xs (I1.ok.hd hc) pl.isList (by simpa using strsAre_of r) (by unfold scanBound; omega) fun h' tk hS hcl hk => ?_
  refine PyProof.Rows.args_nil ?_
  have I2 : Inv X pins σ H1 { s1 with heap := h', toks := tk } := I1.kept fun b o e => hk b o e
  refine sortTx hS (I2.ok.hd hc) (by omega) fun s' p out c2 k g o hp hg hi => ?_
  have hlen : ((ssetS xs).map V.str).length ≤ sizeLine := by
    have : (ssetS xs).length = (nubS xs).length := (sortS_perm _).length_eq
    rw [List.length_map, this, sizeLine_eq]; omega
  have hn : H1 p = none := I2.hok.fresh hp
  have J : Inv X pins σ (upd H1 p (.lst ((ssetS xs).map V.str))) { { s1 with heap := h', toks := tk } with heap := s'.heap, gens := s'.gens, drawn := s'.drawn, toks := s'.toks } :=
    I2.call (ch := []) (Un.laid k hp hn) (I2.hok.laid k hp ⟨hlen, out.toList, c2, vals_of_strs hi, hg⟩) (by rw [g]; exact I2.bare) (fun _ z => nomatch z)
  have e : s' = { { s1 with heap := h', toks := tk } with heap := s'.heap, gens := s'.gens, drawn := s'.drawn, toks := s'.toks } := by
    cases s'; cases s1; cases o; rfl
  rw [e]
  exact ⟨.ref p, _, J, rfl, q1 p hn⟩
end
section
variable {K : PySem.W.Frag}
def mSortTx (a : En → Option D) : En → Option (List D) := fun ρ => (a ρ).bind fun x => match x with
  | .list ds => (strsD ds).bind fun ns => if ns.length < 63 then some ((ssetS ns).map PyData.str) else none
  | _ => none
theorem fl_sortTx {ta : TE} {ma : En → Option D} (ha : ET K ta ma) : FL K (tSortTx K ta) (mSortTx ma) := by
  refine ⟨fun {H0 T0 σ ρ H T out} G h Q q => ?_⟩
  obtain ⟨x, hx, h⟩ := bind_some h
  refine ha.run G hx _ fun v H1 s1 d1 p1 => ?_
  split at h
  · obtain ⟨ns, e, h⟩ := bind_some h
    split at h
    · rename_i hz
      cases h
      cases strs_some e
      obtain ⟨a, us, rfl, hs, gu⟩ := dp_lst p1
      cases dpa_strs_v gu
      exact ⟨a, ns, rfl, sql_ov d1 hs, hz, fun p np => q p _ H1 s1 d1 np (dpa_strs _)⟩
    · cases h
  · cases h
theorem strs_map : ∀ ns : List Str, strsD (ns.map PyData.str) = some ns
  | [] => rfl
  | i :: r => by show (strsD _).map _ = _; rw [strs_map r]; rfl
theorem sortTx_of {a : En → Option D} {ρ : En} {ns : List Str} (h : a ρ = some (.list (ns.map .str))) (hz : ns.length < 63) : mSortTx a ρ = some ((ssetS ns).map .str) := by
  unfold mSortTx
  rw [h]
  show (strsD (ns.map PyData.str)).bind _ = _
  rw [strs_map]
  exact if_pos hz
end
end DD

set_option Elab.async false
set_option linter.all false
set_option maxRecDepth 100000
set_option maxHeartbeats 4000000
/-! a second name for one of two lists of one's own, to which something is appended at once -/
namespace DD
variable [TabQ] [ExQ]
open PySem PySem.Spec PyProof.Rows L2
section
variable {K : PySem.W.Frag} {H0 H : Hp} {T0 T : Ov} {σ : L2.St} {ρ : En}
/-- a slot gets a value of which nothing is known -/
theorem Good.hide {i : Nat} {v : Option V} (G : Good K H0 T0 σ ρ H T) : Good K H0 T0 (σ.set i v) (ρ.set i none) H T := by
  refine ⟨by rw [List.length_set, List.length_set]; exact G.len, fun j x h => ?_, fun j x h => ?_, fun j k ds es p h1 h2 h3 h4 => ?_, G.dis, G.ext, G.ex, exc_set G.exc (fun _ z => by cases z)⟩
  · rcases get_set h with ⟨_, q, _⟩ | ⟨e, q⟩
    · cases q
    · obtain ⟨w, a, b⟩ := G.val j x q
      exact ⟨w, by rw [List.getElem?_set_ne (Ne.symm e)]; exact a, b⟩
  · rcases get_set h with ⟨_, q, _⟩ | ⟨e, q⟩
    · cases q
    · obtain ⟨p, xs, a, b⟩ := G.own j x q
      exact ⟨p, xs, by rw [List.getElem?_set_ne (Ne.symm e)]; exact a, b⟩
  · rcases get_set h1 with ⟨_, q, _⟩ | ⟨e1, q1⟩
    · cases q
    · rcases get_set h2 with ⟨_, q, _⟩ | ⟨e2, q2⟩
      · cases q
      · rw [List.getElem?_set_ne (Ne.symm e1)] at h3
        rw [List.getElem?_set_ne (Ne.symm e2)] at h4
        exact G.inj j k ds es p q1 q2 h3 h4
end
def sAli (w : Nat) (c : En → Option Bool) (i j : Nat) (a : En → Option D) : En → Option Fl := fun ρ => (c ρ).bind fun b =>
  if w < ρ.length then match ρ[if b = true then i else j]? with
    | some (some (.own _)) => sAppend (if b = true then i else j) a (ρ.set w none)
    | _ => none
  else none
section
variable {K : PySem.W.Frag} {tc : TT} {te : TE} {mc : En → Option Bool} {ma : En → Option D} {t u v : TS} {m : En → Option Fl}
theorem st_ali {w i j : Nat} (hc : TTm K tc mc) (ha : ET K te ma) :
    TSm K (tSeq (tAsg (tIf tc (tVar i) (tVar j)) (gName w)) (tDrop (tBM K "list" rAppend (tVar w) (tCons te tNil)))) (sAli w mc i j ma) := by
  refine ⟨fun {H0 T0 σ ρ H T f} G h E q => ?_⟩
  obtain ⟨b, hb, h⟩ := bind_some h
  split at h
  · rename_i hw
    split at h
    · rename_i ds0 e0
      refine hc.run G hb _ fun H1 s1 d1 => ?_
      have G1 := G.mono s1 d1
      unfold sAppend at h
      split at h
      · rename_i ds e
        obtain ⟨x, hx, h⟩ := bind_some h
        split at h
        · rename_i hz
          cases h
          obtain ⟨p0, xs0, a0, b0, c0, g0⟩ := G1.own _ ds0 e0
          have G2 := G1.hide (i := w) (v := some (.ref p0))
          have lw : w < σ.length := by rw [← G.len]; exact hw
          have nw : ¬ w = (if b = true then i else j) := fun z => by
            rw [← z, set_self hw] at e
            cases e
          have sk : (σ.set w (some (V.ref p0)))[if b = true then i else j]? = some (some (.ref p0)) := by rw [List.getElem?_set_ne nw]; exact a0
          have core : ∃ v, (σ.set w (some (V.ref p0)))[w]? = some (some v) ∧ (tyV K "list" v (ov H1 T) ∧ tCons te tNil (σ.set w (some (V.ref p0))) (ov H1 T) fun xs H2 => rAppend v xs H2 fun _ H3 => E.nx (σ.set w (some (V.ref p0))) H3) := by
            refine ⟨.ref p0, set_self lw, .inl ⟨rfl, xs0, SqL.of (ov_own b0)⟩, ?_⟩
            refine ha.run G2 hx _ fun y H2 s2 d2 p2 => ?_
            obtain ⟨p, xs, a, b', c, g⟩ := (G2.mono s2 d2).own _ ds e
            rw [sk] at a
            cases a
            refine ⟨p0, xs, y, rfl, rfl, ov_own b', cap_lt (by rw [dpa_len g]; omega), ?_⟩
            rw [upd_put]
            exact q _ _ _ ((G2.mono s2 d2).turn e sk b' (dpa_snoc g p2))
          cases b with
          | true => exact ⟨.ref p0, a0, core⟩
          | false => exact ⟨.ref p0, a0, core⟩
        · cases h
      · cases h
    · cases h
  · cases h
theorem st_assoc (h : TSm K (tSeq (tSeq t u) v) m) : TSm K (tSeq t (tSeq u v)) m := ⟨fun G q E k => h.run G q E k⟩
end
end DD

set_option Elab.async false
set_option linter.all false
set_option maxRecDepth 100000
set_option maxHeartbeats 4000000
/-! several names get new lists at once -/
namespace DD
variable [TabQ] [ExQ]
open PySem PySem.Spec PyProof.Rows L2
section
variable {K : PySem.W.Frag} {H0 H : Hp} {T0 T : Ov} {σ : L2.St} {ρ : En}
theorem Good.lay {p : Addr} {xs : List V} (G : Good K H0 T0 σ ρ H T) (hp : ov H T p = none) : Good K H0 T0 σ ρ H (put T p xs) := by
  obtain ⟨hT, hH⟩ := ov_free hp
  refine ⟨G.len, G.val, fun i ds h => ?_, G.inj, dis_put G.dis hH, fun a ys e => ?_, G.ex, G.exc⟩
  · obtain ⟨r, ys, a, b, c⟩ := G.own i ds h
    exact ⟨r, ys, a, by rw [put_ne fun z => by rw [z, hT] at b; cases b]; exact b, c⟩
  · have := G.ext a ys e
    rw [put_ne fun z => by rw [z, hT] at this; cases this]
    exact this
theorem Good.apart {p : Addr} (G : Good K H0 T0 σ ρ H T) (h : T p = none) : ∀ (j : Nat) (es : List D), ρ[j]? = some (some (Sl.own es)) → σ[j]? ≠ some (some (.ref p)) := fun j es e z => by
  obtain ⟨r, ys, a, b, _⟩ := G.own j es e
  rw [z] at a
  cases a
  rw [h] at b
  cases b
theorem Good.new0 {p : Addr} (G : Good K H0 T0 σ ρ H T) (h : T p = none) : T0 p = none := by
  cases e : T0 p with
  | none => rfl
  | some ys => have := G.ext p ys e; rw [h] at this; cases this
/-- a list that is laid gets its name -/
theorem Good.adopt {i : Nat} {p : Addr} {xs : List V} {ds : List D} (G : Good K H0 T0 σ ρ H T) (hp : T p = some xs) (h0 : T0 p = none) (g : DpAll K H xs ds)
    (hn : ∀ (j : Nat) (es : List D), ρ[j]? = some (some (Sl.own es)) → σ[j]? ≠ some (some (.ref p))) : Good K H0 T0 (σ.set i (some (.ref p))) (ρ.set i (some (Sl.own ds))) H T := by
  refine ⟨by rw [List.length_set, List.length_set]; exact G.len, fun j x h => ?_, fun j x h => ?_, fun j k as bs r h1 h2 h3 h4 => ?_, G.dis, G.ext, G.ex, exc_set G.exc (fun _ z => by cases z)⟩
  · rcases get_set h with ⟨_, q, _⟩ | ⟨e, q⟩
    · cases q
    · obtain ⟨w, a, b⟩ := G.val j x q
      exact ⟨w, by rw [List.getElem?_set_ne (Ne.symm e)]; exact a, b⟩
  · rcases get_set h with ⟨e, q, l⟩ | ⟨e, q⟩
    · cases q
      subst e
      exact ⟨p, xs, set_self (by rw [← G.len]; exact l), hp, h0, g⟩
    · obtain ⟨r, ys, a, b⟩ := G.own j x q
      exact ⟨r, ys, by rw [List.getElem?_set_ne (Ne.symm e)]; exact a, b⟩
  · rcases get_set h1 with ⟨e1, q1, l1⟩ | ⟨e1, q1⟩
    · rcases get_set h2 with ⟨e2, q2, l2⟩ | ⟨e2, q2⟩
      · rw [e1, e2]
      · subst e1
        rw [set_self (by rw [← G.len]; exact l1)] at h3
        cases h3
        rw [List.getElem?_set_ne (Ne.symm e2)] at h4
        exact absurd h4 (hn k bs q2)
    · rcases get_set h2 with ⟨e2, q2, l2⟩ | ⟨e2, q2⟩
      · subst e2
        rw [set_self (by rw [← G.len]; exact l2)] at h4
        cases h4
        rw [List.getElem?_set_ne (Ne.symm e1)] at h3
        exact absurd h3 (hn j as q1)
      · rw [List.getElem?_set_ne (Ne.symm e1)] at h3
        rw [List.getElem?_set_ne (Ne.symm e2)] at h4
        exact G.inj j k as bs r q1 q2 h3 h4
/-- the other slots stay apart -/
theorem apart_set {i : Nat} {p q : Addr} {ds : List D} (ne : p ≠ q) (h : ∀ (j : Nat) (es : List D), ρ[j]? = some (some (Sl.own es)) → σ[j]? ≠ some (some (.ref q))) (l : ρ.length = σ.length) :
    ∀ (j : Nat) (es : List D), (ρ.set i (some (Sl.own ds)))[j]? = some (some (Sl.own es)) → (σ.set i (some (.ref p)))[j]? ≠ some (some (.ref q)) := fun j es e z => by
  rcases get_set e with ⟨e1, _, l1⟩ | ⟨e1, q1⟩
  · subst e1
    rw [set_self (by rw [← l]; exact l1)] at z
    cases z
    exact ne rfl
  · rw [List.getElem?_set_ne (Ne.symm e1)] at z
    exact h j es q1 z
end
def sParOV (i j : Nat) (a : En → Option (List D)) (b : En → Option D) : En → Option Fl := fun ρ => (a ρ).bind fun x => (b ρ).map fun y => .nx ((ρ.set i (some (.own x))).set j (some (.val y)))
def sParOO (i j : Nat) (a b : En → Option (List D)) : En → Option Fl := fun ρ => (a ρ).bind fun x => (b ρ).map fun y => .nx ((ρ.set i (some (.own x))).set j (some (.own y)))
def sParOOO (i j l : Nat) (a b c : En → Option (List D)) : En → Option Fl := fun ρ => (a ρ).bind fun x => (b ρ).bind fun y => (c ρ).map fun z => .nx (((ρ.set i (some (.own x))).set j (some (.own y))).set l (some (.own z)))
section
variable {K : PySem.W.Frag} {ta tb tc : TE}
theorem st_parOV {i j : Nat} {ma : En → Option (List D)} {mb : En → Option D} (ha : FL K ta ma) (hb : ET K tb mb) : TSm K (tPar i j (tCons ta (tCons tb tNil))) (sParOV i j ma mb) := by
  refine ⟨fun {H0 T0 σ ρ H T f} G h E q => ?_⟩
  obtain ⟨x, hx, h⟩ := bind_some h
  obtain ⟨y, hy, h⟩ := map_some h
  subst h
  refine ha.run G hx _ fun p xs H1 s1 d1 n1 p1 => ?_
  rw [upd_put]
  have G0 := G.mono s1 d1
  have nT := (ov_free n1).1
  have G1 := G0.lay (xs := xs) n1
  refine hb.run G1 hy _ fun w H2 s2 d2 p2 => ⟨.ref p, w, rfl, ?_⟩
  have G2 := G1.mono s2 d2
  exact q _ H2 _ ((G2.adopt put_same (G0.new0 nT) (dpa_mono s2 p1) (G0.apart nT)).set p2)
theorem st_parOO {i j : Nat} {ma mb : En → Option (List D)} (ha : FL K ta ma) (hb : FL K tb mb) : TSm K (tPar i j (tCons ta (tCons tb tNil))) (sParOO i j ma mb) := by
  refine ⟨fun {H0 T0 σ ρ H T f} G h E q => ?_⟩
  obtain ⟨x, hx, h⟩ := bind_some h
  obtain ⟨y, hy, h⟩ := map_some h
  subst h
  refine ha.run G hx _ fun p xs H1 s1 d1 n1 p1 => ?_
  rw [upd_put]
  have G0 := G.mono s1 d1
  have nT := (ov_free n1).1
  have G1 := G0.lay (xs := xs) n1
  refine hb.run G1 hy _ fun r ys H2 s2 d2 n2 p2 => ⟨.ref p, .ref r, rfl, ?_⟩
  rw [upd_put]
  have G2 := G1.mono s2 d2
  have nT2 := (ov_free n2).1
  have ne : p ≠ r := fun z => by rw [← z, put_same] at nT2; cases nT2
  have G3 := G2.lay (xs := ys) n2
  have A := G3.adopt (i := i) (by rw [put_ne ne]; exact put_same) (G0.new0 nT) (dpa_mono s2 p1) (G0.apart nT)
  exact q _ H2 _ (A.adopt put_same (G2.new0 nT2) p2 (apart_set ne (G2.apart nT2) G.len))
theorem st_parOOO {i j l : Nat} {ma mb mc : En → Option (List D)} (ha : FL K ta ma) (hb : FL K tb mb) (hc : FL K tc mc) : TSm K (tPar3 i j l (tCons ta (tCons tb (tCons tc tNil)))) (sParOOO i j l ma mb mc) := by
  refine ⟨fun {H0 T0 σ ρ H T f} G h E q => ?_⟩
  obtain ⟨x, hx, h⟩ := bind_some h
  obtain ⟨y, hy, h⟩ := bind_some h
  obtain ⟨z, hz, h⟩ := map_some h
  subst h
  refine ha.run G hx _ fun p xs H1 s1 d1 n1 p1 => ?_
  rw [upd_put]
  have G0 := G.mono s1 d1
  have nT := (ov_free n1).1
  have G1 := G0.lay (xs := xs) n1
  refine hb.run G1 hy _ fun r ys H2 s2 d2 n2 p2 => ?_
  rw [upd_put]
  have G2 := G1.mono s2 d2
  have nT2 := (ov_free n2).1
  have ne : p ≠ r := fun z => by rw [← z, put_same] at nT2; cases nT2
  have G3 := G2.lay (xs := ys) n2
  refine hc.run G3 hz _ fun u zs H3 s3 d3 n3 p3 => ⟨.ref p, .ref r, .ref u, rfl, ?_⟩
  rw [upd_put]
  have G4 := G3.mono s3 d3
  have nT3 := (ov_free n3).1
  have ne2 : r ≠ u := fun z => by rw [← z, put_same] at nT3; cases nT3
  have ne3 : p ≠ u := fun z => by rw [← z, put_ne ne, put_same] at nT3; cases nT3
  have G5 := G4.lay (xs := zs) n3
  have A := G5.adopt (i := i) (by rw [put_ne ne3, put_ne ne]; exact put_same) (G0.new0 nT) (dpa_mono (s2.trans s3) p1) (G0.apart nT)
  have B := A.adopt (i := j) (by rw [put_ne ne2]; exact put_same) (G2.new0 nT2) (dpa_mono s3 p2) (apart_set ne (G2.apart nT2) G.len)
  exact q _ H3 _ (B.adopt put_same (G4.new0 nT3) p3 (apart_set ne2 (apart_set ne3 (G4.apart nT3) G.len) (by rw [List.length_set, List.length_set]; exact G.len)))
end
section
variable {K : PySem.W.Frag} {ta tb tc : TE}
/-- three new lists by way of a tuple -/
theorem st_tupOOO {i j l : Nat} {ma mb mc : En → Option (List D)} (ha : FL K ta ma) (hb : FL K tb mb) (hc : FL K tc mc) :
    TSm K (tAsg (tTup (tCons ta (tCons tb (tCons tc tNil)))) (gTup K 3 (gCons (gName i) (gCons (gName j) (gCons (gName l) gNil))))) (sParOOO i j l ma mb mc) := by
  refine ⟨fun {H0 T0 σ ρ H T f} G h E q => ?_⟩
  obtain ⟨x, hx, h⟩ := bind_some h
  obtain ⟨y, hy, h⟩ := bind_some h
  obtain ⟨z, hz, h⟩ := map_some h
  subst h
  refine ha.run G hx _ fun p xs H1 s1 d1 n1 p1 => ?_
  rw [upd_put]
  have G0 := G.mono s1 d1
  have nT := (ov_free n1).1
  have G1 := G0.lay (xs := xs) n1
  refine hb.run G1 hy _ fun r ys H2 s2 d2 n2 p2 => ?_
  rw [upd_put]
  have G2 := G1.mono s2 d2
  have nT2 := (ov_free n2).1
  have ne : p ≠ r := fun z => by rw [← z, put_same] at nT2; cases nT2
  have G3 := G2.lay (xs := ys) n2
  refine hc.run G3 hz _ fun u zs H3 s3 d3 n3 p3 => ?_
  rw [upd_put]
  have G4 := G3.mono s3 d3
  have nT3 := (ov_free n3).1
  have ne2 : r ≠ u := fun z => by rw [← z, put_same] at nT3; cases nT3
  have ne3 : p ≠ u := fun z => by rw [← z, put_ne ne, put_same] at nT3; cases nT3
  have G5 := G4.lay (xs := zs) n3
  refine ⟨(show 3 ≤ sizeLine by decide), fun t nt => ?_⟩
  obtain ⟨tT, tH⟩ := ov_free nt
  rw [upd_ov tT]
  have s4 : Same H3 (upd H3 t (.tup [.ref p, .ref r, .ref u])) := same_new tH
  have G6 := G5.mono s4 (dis_upd G5.dis tT tH)
  refine ⟨t, [.ref p, .ref r, .ref u], rfl, sqt_ov G6.dis (SqT.of upd_same), rfl, .ref p, _, rfl, .ref r, _, rfl, .ref u, _, rfl, rfl, ?_⟩
  have A := G6.adopt (i := i) (by rw [put_ne ne3, put_ne ne]; exact put_same) (G0.new0 nT) (dpa_mono ((s2.trans s3).trans s4) p1) (G0.apart nT)
  have B := A.adopt (i := j) (by rw [put_ne ne2]; exact put_same) (G2.new0 nT2) (dpa_mono (s3.trans s4) p2) (apart_set ne (G2.apart nT2) G.len)
  exact q _ _ _ (B.adopt put_same (G4.new0 nT3) (dpa_mono s4 p3) (apart_set ne2 (apart_set ne3 (G4.apart nT3) G.len) (by rw [List.length_set, List.length_set]; exact G.len)))
end
end DD

set_option Elab.async false
set_option linter.all false
set_option maxRecDepth 100000
set_option maxHeartbeats 4000000
/-! in, of a list or a tuple of flat data -/
namespace DD
variable [TabQ] [ExQ]
open PySem PySem.Spec PyProof.Rows L2
section
variable {K : PySem.W.Frag}
def dInX (neg : Bool) : D → D → Option D
  | x, .list ds => if (flatD x && ds.all flatD) = true then some (.bool (if neg then !(ds.any fun z => PyData.eqv z x) else ds.any fun z => PyData.eqv z x)) else none
  | x, .tuple ds => if (flatD x && ds.all flatD) = true then some (.bool (if neg then !(ds.any fun z => PyData.eqv z x) else ds.any fun z => PyData.eqv z x)) else none
  | _, _ => none
theorem rd_inX {neg : Bool} : RD K (rIn K neg) (dInX neg) := by
  refine ⟨fun {H T x y a b d} dis ha hb h Q q => ?_⟩
  unfold dInX at h
  split at h
  · rename_i ds
    split at h
    · rename_i c
      rw [Bool.and_eq_true] at c
      cases h
      obtain ⟨p, xs, rfl, hs, g⟩ := dp_lst hb
      refine ⟨p, xs, rfl, .inl (sql_ov dis hs), flat_of ha c.1, flatA_of g c.2, ?_⟩
      rw [inV_eqv ha c.1 g c.2]
      exact q _ H (Same.refl H) dis (.bl _)
    · cases h
  · rename_i ds
    split at h
    · rename_i c
      rw [Bool.and_eq_true] at c
      cases h
      obtain ⟨p, xs, rfl, hs, g⟩ := dp_tup hb
      refine ⟨p, xs, rfl, .inr (sqt_ov dis hs), flat_of ha c.1, flatA_of g c.2, ?_⟩
      rw [inV_eqv ha c.1 g c.2]
      exact q _ H (Same.refl H) dis (.bl _)
    · cases h
  · cases h
/-! texts in a row of texts -/
theorem flat_strs_all (l : List Str) : (l.map PyData.str).all flatD = true := by
  rw [List.all_eq_true]
  intro x hx
  obtain ⟨y, _, rfl⟩ := List.mem_map.mp hx
  rfl
theorem eqv_str (a b : Str) : PyData.eqv (.str a) (.str b) = decide (a = b) := by
  show (a == b) = decide (a = b)
  by_cases h : a = b
  · subst h; simp
  · simp [h]
theorem any_strs (n : Str) (l : List Str) : ((l.map PyData.str).any fun z => PyData.eqv z (.str n)) = decide (n ∈ l) := by
  induction l with
  | nil => rfl
  | cons x r ih =>
    rw [List.map_cons, List.any_cons, ih, eqv_str]
    by_cases h : x = n
    · subst h; simp
    · have h2 : ¬ n = x := fun z => h z.symm
      simp [h, h2]
theorem inX_l (n : Str) (l : List Str) : dInX false (.str n) (.list (l.map .str)) = some (.bool (decide (n ∈ l))) := by
  show (if (true && (l.map PyData.str).all flatD) = true then some (PyData.bool (if false = true then !((l.map PyData.str).any fun z => PyData.eqv z (.str n)) else (l.map PyData.str).any fun z => PyData.eqv z (.str n))) else none) = _
  rw [flat_strs_all, any_strs]
  rfl
theorem inX_t (n : Str) (l : List Str) : dInX false (.str n) (.tuple (l.map .str)) = some (.bool (decide (n ∈ l))) := by
  show (if (true && (l.map PyData.str).all flatD) = true then some (PyData.bool (if false = true then !((l.map PyData.str).any fun z => PyData.eqv z (.str n)) else (l.map PyData.str).any fun z => PyData.eqv z (.str n))) else none) = _
  rw [flat_strs_all, any_strs]
  rfl
theorem ninX_l (n : Str) (l : List Str) : dInX true (.str n) (.list (l.map .str)) = some (.bool (!decide (n ∈ l))) := by
  show (if (true && (l.map PyData.str).all flatD) = true then some (PyData.bool (if true = true then !((l.map PyData.str).any fun z => PyData.eqv z (.str n)) else (l.map PyData.str).any fun z => PyData.eqv z (.str n))) else none) = _
  rw [flat_strs_all, any_strs]
  rfl
theorem ninX_t (n : Str) (l : List Str) : dInX true (.str n) (.tuple (l.map .str)) = some (.bool (!decide (n ∈ l))) := by
  show (if (true && (l.map PyData.str).all flatD) = true then some (PyData.bool (if true = true then !((l.map PyData.str).any fun z => PyData.eqv z (.str n)) else (l.map PyData.str).any fun z => PyData.eqv z (.str n))) else none) = _
  rw [flat_strs_all, any_strs]
  rfl
end
end DD

set_option Elab.async false
set_option linter.all false
set_option maxRecDepth 100000
set_option maxHeartbeats 4000000
/-! how many texts there are in a row; tuples of the top -/
namespace DD
variable [TabQ] [ExQ]
open PySem PySem.Spec PyProof.Rows L2
section
variable {P : Program} {w : World} {A : Around} {E : Value → Shared → Prop} {s : Shared}
/-- the step that fills the new set from the tuple of texts at l -/
theorem fillTxT {h0 : Heap} {l : Addr} {items : Array Value} (xs : List Str) (hh : A.handled = none) (hl : (h0.push (set0 w)).IsTuple l items) (hlt : l < h0.objs.size) (hi : StrsAre items.toList xs) (hb : xs.length + 1 < scanBound) {R : Result → Shared → Prop} {t : Shared} (ht : t.heap = h0.push (set0 w))
    (h : ∀ (h' : Heap) (tk : Nat), TxS P w h' h0.objs.size (nubS xs) → (nubS xs).length ≤ xs.length → (∀ b o, h0.get? b = some o → h'.get? b = some o) → R (.ok (.ret .none)) { t with heap := h', toks := tk }) :
    codeAny (model P w) A.in1.in1 (.builtin "set.update.loop" ⟨[.ref h0.objs.size, .ref (h0.push (set0 w)).objs.size], []⟩) R { t with heap := (h0.push (set0 w)).push { cls := .type "tuple_iterator", data := .fields #[.ref l, .int 0 0] } } := by
  have size1 : (h0.push (set0 w)).objs.size = h0.objs.size + 1 := Heap.size_push ..
  have len : items.size = xs.length := by
    have q := StrsAre.length hi
    rwa [Array.length_toList] at q
  have ne1 : l ≠ (h0.push (set0 w)).objs.size := by rw [size1]; exact Nat.ne_of_lt (Nat.lt_succ_of_lt hlt)
  have out : h0.objs.size ∉ [(h0.push (set0 w)).objs.size, l] := by
    rw [size1]
    intro m
    simp only [List.mem_cons, List.not_mem_nil, or_false] at m
    rcases m with m | m
    · exact absurd m (Nat.ne_of_lt (Nat.lt_succ_self _))
    · exact absurd m (Nat.ne_of_gt hlt)
  have at0 : ((h0.push (set0 w)).push { cls := .type "tuple_iterator", data := .fields #[.ref l, .int 0 0] }).get? h0.objs.size = some (set0 w) := Heap.get?_push_of_some _ (Heap.get?_push_size _ rfl)
  refine tx_loop (P := P) (w := w) ((Walks.tuple (A := A.in1.in1.in1) (by simpa using hh) _ l ne1 items).toS) h0.objs.size out xs len hb (fun i v e => ?_) (items.size - 0) 0 _ (by omega) (Nat.zero_le _)
    ⟨⟨_, Heap.get?_push_size _ rfl, rfl, rfl⟩, hl.push _⟩ (Nat.le_refl 0) (tx_new at0) fun s' hm hS hc => ?_
  · obtain ⟨tk, e2⟩ := strs_nth hi i v (by rw [Array.getElem?_toList]; exact e)
    have hil : i < xs.length := by rw [← len]; exact (Array.getElem?_eq_some_iff.mp e).1
    refine ⟨xs[i], tk, List.getElem?_eq_getElem hil, ?_⟩
    rw [e2, List.getD_eq_getElem?_getD, List.getElem?_eq_getElem hil]
    rfl
  · obtain ⟨h', g', d', tk', os'⟩ := s'
    obtain rfl : g' = t.gens := hm.gens
    obtain rfl : d' = t.drawn := hm.drawn
    obtain rfl : os' = t.os := hm.os
    refine h h' tk' hS (by rw [← len]; exact hc) fun b o e => hm.heap b o ?_ (Heap.get?_push_of_some _ (Heap.get?_push_of_some _ e))
    have lt := Heap.lt_size e
    rw [size1]
    intro m
    simp only [List.mem_cons, List.not_mem_nil, or_false] at m
    rcases m with m | m
    · exact absurd m (Nat.ne_of_lt lt)
    · exact absurd m (Nat.ne_of_lt (Nat.lt_succ_of_lt lt))
theorem call_setTxT {l : Addr} {items : Array Value} (xs : List Str) {Q : Value → Shared → Prop} (hh : A.handled = none) (hl : s.heap.IsTuple l items) (hit : StrsAre items.toList xs) (hb : xs.length + 1 < scanBound)
    (h : ∀ (h' : Heap) (tk : Nat), TxS P w h' s.heap.objs.size (nubS xs) → (nubS xs).length ≤ xs.length → (∀ b o, s.heap.get? b = some o → h'.get? b = some o) → Q (.ref s.heap.objs.size) { s with heap := h', toks := tk }) :
    wpAny (model P w) A (call (.type "set") [.ref l]) Q E s := by
  obtain ⟨c0, tl, hmro⟩ := F.called_set.mro
  have h0 := F.called_set.made
  have h1 := F.called_set.notType
  have h2 := F.called_set.canCreate
  have h3 := F.called_set.sub
  have h4 := F.typeCall_set_1 (.ref l)
  refine wpAny_call (codeAny_of_tree (show wpAny _ _ (callAny (.type "set") _) _ _ _ from wpAny_pure ⟨Code.quiet_builtin _ (by decide +kernel), codeAny_builtin F.entry_type_call ?_⟩))
  rw [Around.under_plain (weight_type_call_type "set" [.ref l] []) rfl]
  repeat (any_goals (first | assumption | wp_step))
  refine codeAny_mono (code_set_led1 (.ref l) (E := E) (Q₁ := fun obj s₁ => obj = .ref s.heap.objs.size ∧ s₁ = { s with heap := s.heap.push (set0 w) }) ⟨rfl, rfl⟩) fun r s₁ hr => ?_
  cases r with
  | error e => exact hr
  | ok fl =>
    cases fl with
    | ret obj =>
      obtain ⟨rfl, rfl⟩ := hr
      have at0 : (s.heap.push (set0 w)).get? s.heap.objs.size = some (set0 w) := Heap.get?_push_size _ rfl
      have ty : Shared.TypeIs { s with heap := s.heap.push (set0 w) } (.ref s.heap.objs.size) "set" := ⟨_, at0, rfl⟩
      have h5 := F.called_set.init.lookup
      have h6 := F.called_set.init.bind (.ref s.heap.objs.size)
      repeat (any_goals (first | assumption | wp_step))
      refine codeAny_mono (codeAny_call_builtin (R := wants (fun r s₂ => r = .none ∧ ∃ h' tk, s₂ = { s with heap := h', toks := tk } ∧ TxS P w h' s.heap.objs.size (nubS xs) ∧ (nubS xs).length ≤ xs.length ∧
          (∀ b o, s.heap.get? b = some o → h'.get? b = some o)) E) F.called_set.init.plain F.entry_set_init (check_set_init_1 ty ?_)) fun r₂ s₂ hr₂ => ?_
      · obtain ⟨⟨ocls, odict, odata, oslots⟩, hol, hcl, nl, hdl⟩ := hl
        simp only at hcl hdl
        subst hcl hdl
        have hol' : (s.heap.push (set0 w)).get? l = some { cls := .type "tuple", dict := odict, data := .seq items nl, slots := oslots } := Heap.get?_push_of_some _ hol
        have h7 := F.sub_tuple_set
        have h8 := F.sub_tuple_frozenset
        have h9 : (Value.type "tuple" == Value.type "dict") = false := by decide
        have hL : (s.heap.push (set0 w)).IsTuple l items := ⟨_, hol', rfl, nl, rfl⟩
        unfold Builtin.«set.__init__» noKeywords Builtin.Frozenset.updateFrom
        generalize hPI : pyIter = PI
        wp_walk
        subst hPI
        refine wpAny_pyIter_tuple hL (wpAny_bind (wpAny_runValue ?_))
        refine fillTxT (A := A) (t := { s with heap := s.heap.push (set0 w) }) xs hh hL (Heap.lt_size hol) hit hb rfl fun h' tk hS hc hk => ?_
        refine wpAny_pure ?_
        show wpAny _ _ (ret Value.none) _ _ _
        exact wpAny_pure ⟨rfl, h', tk, rfl, hS, hc, hk⟩
      · cases r₂ with
        | error e => exact hr₂
        | ok fl₂ =>
          cases fl₂ with
          | ret r =>
            obtain ⟨rfl, h', tk, rfl, hS, hc, hk⟩ := hr₂
            repeat (any_goals (first | assumption | wp_step))
            exact h _ _ hS hc hk
          | _ => exact hr₂.elim
    | _ => exact hr.elim
end
section
variable {X : Cx}
def tLenTx (K : PySem.W.Frag) (ta : TE) : TE := fun σ H Q => ta σ H fun x H1 => ∃ (l : Addr) (xs : List Str), x = V.ref l ∧ (SqL K H1 l (xs.map V.str) ∨ SqT K H1 l (xs.map V.str)) ∧ xs.length < 63 ∧ Q (.int ((nubS xs).length : Nat)) H1
theorem pe_lenTx {a : Expr} {ta : TE} {p p2 q pos : Pos} (hg : Gl X "len") (hm : X.mg "len" = none) (hg2 : Gl X "set") (hm2 : X.mg "set" = none) (ha : PE X a ta) (hc : X.calm = true := by rfl)
    (na : starEach [a] X.env = (false, eval a X.env) :: starEach [] X.env := by rfl) : PE X (.Call (.Name "len" p) [.Call (.Name "set" p2) [a] [] q] [] pos) (tLenTx X.K ta) := by
  refine ⟨fun pins s σ H Q I h => ?_⟩
  refine Call_ (ld_blt I hg hm boot_len ?_)
  refine PyProof.Rows.callWith_builtin1 (PyProof.Rows.args_cons ?_ rfl) rfl rfl
  refine Call_ (ld_blt I hg2 hm2 boot_set ?_)
  refine PyProof.Rows.callWith_type1 (PyProof.Rows.args_cons (thn (ha.run pins s σ H _ I h) fun v s1 ⟨x, H1, I1, r1, q1⟩ => PyProof.Rows.args_nil ?_) na) na rfl
  obtain ⟨l, xs, rfl, hq, h1, q1⟩ := q1
  cases r1
  have fin : ∀ (h' : Heap) (tk : Nat), TxS X.prog X.w h' s1.heap.objs.size (nubS xs) → (nubS xs).length ≤ xs.length → (∀ b o, s1.heap.get? b = some o → h'.get? b = some o) →
      wpAny (model X.prog X.w) X.A (spliced (backTo pos (starEach [] X.env))) (fun vs s₂ => wpAny (model X.prog X.w) X.A (call (.builtin "len") (Value.ref s1.heap.objs.size :: vs)) (EP X pins σ Q) X.xe s₂) X.xe { s1 with heap := h', toks := tk } := fun h' tk hS hl hk => by
    refine PyProof.Rows.args_nil ?_
    obtain ⟨o, es, ep, t, ho, hex, hd, _, pm, _, _, hf, _⟩ := hS
    have hn : es.size = (nubS xs).length := by
      have := pm.length_eq
      rw [List.length_map] at this
      exact this
    have I2 : Inv X pins σ H1 { s1 with heap := h', toks := tk } := I1.kept fun b o e => hk b o e
    refine call_len_set ho hex hd hf (by rw [hn]; omega) ⟨.int ((nubS xs).length : Nat), H1, I2.tok _, ⟨_, by rw [hn]⟩, q1⟩
  rcases hq with hq | hq
  · obtain ⟨its, r, pl, hz⟩ := I1.list hq
    exact call_setTx (P := X.prog) xs (I1.ok.hd hc) pl.isList (by simpa using strsAre_of r) (by unfold scanBound; omega) fun h' tk hS hl hk => fin h' tk hS hl hk
  · obtain ⟨its, r, pl, hz⟩ := I1.tuple hq
    exact call_setTxT (P := X.prog) xs (I1.ok.hd hc) pl (by simpa using strsAre_of r) (by unfold scanBound; omega) fun h' tk hS hl hk => fin h' tk hS hl hk
end
section
variable {K : PySem.W.Frag}
def mLenTx (a : En → Option D) : En → Option D := fun ρ => (a ρ).bind fun x => match x with
  | .list ds => (strsD ds).bind fun ns => if ns.length < 63 then some (.int ((nubS ns).length : Nat)) else none
  | .tuple ds => (strsD ds).bind fun ns => if ns.length < 63 then some (.int ((nubS ns).length : Nat)) else none
  | _ => none
theorem ev_lenTx {ta : TE} {ma : En → Option D} (ha : ET K ta ma) : ET K (tLenTx K ta) (mLenTx ma) := by
  refine ⟨fun {H0 T0 σ ρ H T d} G h Q q => ?_⟩
  obtain ⟨x, hx, h⟩ := bind_some h
  refine ha.run G hx _ fun v H1 s1 d1 p1 => ?_
  split at h
  · obtain ⟨ns, e, h⟩ := bind_some h
    split at h
    · rename_i hz
      cases h
      cases strs_some e
      obtain ⟨a, us, rfl, hs, gu⟩ := dp_lst p1
      cases dpa_strs_v gu
      exact ⟨a, ns, rfl, .inl (sql_ov d1 hs), hz, q _ H1 s1 d1 (.int _)⟩
    · cases h
  · obtain ⟨ns, e, h⟩ := bind_some h
    split at h
    · rename_i hz
      cases h
      cases strs_some e
      obtain ⟨a, us, rfl, hs, gu⟩ := dp_tup p1
      cases dpa_strs_v gu
      exact ⟨a, ns, rfl, .inr (sqt_ov d1 hs), hz, q _ H1 s1 d1 (.int _)⟩
    · cases h
  · cases h
/-- a tuple of the top -/
theorem tup_const {a : Addr} {od : Option Addr} {its : Array Value} {n : Nat} {sl : Array (Option Value)} {ds : List D} (t : K.lookup a = some ⟨.type "tuple", od, .seq its n, sl⟩) (z : its.size ≤ 1000) (u : deVs (deV K 2) its.toList = some ds) :
    ∀ H, Dp K H (.ref a) (.tuple ds) := by
  obtain ⟨v, r, g⟩ := deV_ok 3 _ (deV_tup t z u)
  have : v = .ref a := by
    cases v <;> first | (cases r; rfl) | (obtain ⟨_, z⟩ := r; cases z) | cases r
  subst this
  exact g
end
end DD

set_option Elab.async false
set_option linter.all false
set_option maxRecDepth 100000
set_option maxHeartbeats 4000000
/-! sorted of a tuple of texts; slices of lists of which nothing is known -/
namespace DD
variable [TabQ] [ExQ]
open PySem PySem.Spec PyProof.Rows L2
section
variable {P : Program} {w : World} {A : Around} {E : Value → Shared → Prop} {s : Shared}
abbrev fillH (h : Heap) (vs : List Value) : Heap := (h.push (seqObj "list" #[] 0)).update h.objs.size (Obj.mapSeq (· ++ vs.toArray))
theorem fromTup {l : Addr} {vs : List Value} {Q : List Value → Shared → Prop} (hl : s.heap.IsTuple l vs.toArray) (hz : vs.length ≤ sizeLine) (h : Q vs { s with heap := fillH s.heap vs }) :
    wpAny (model P w) A (collect (.ref l)) Q E s := by
  obtain ⟨o, ho, hc, n, hd⟩ := id hl
  have hn : (s.heap.push (seqObj "list" #[] 0)).get? s.heap.objs.size = some (seqObj "list" #[] 0) := Heap.get?_push_size _ rfl
  have ho1 : (s.heap.push (seqObj "list" #[] 0)).get? l = some o := Heap.get?_push_of_some _ ho
  have h1 : (Value.type "tuple" == Value.type "list") = false := by decide
  have h2 : (Value.type "tuple" == Value.type "tuple") = true := by decide
  unfold collect
  refine wpAny_bind (wpAny_runValue (codeAny_builtin entry_proto_collect' ?_))
  show wpAny _ _ (do again (.builtin "list.__iadd__" ⟨[← newList [], .ref l], []⟩)) _ _ s
  refine wpAny_bind (wpAny_newList (wpAny_pure ⟨Code.quiet_builtin _ (by decide +kernel), codeAny_builtin entry_list_iadd' (show wpAny _ _ (Builtin.List.listExtendWith (.ref s.heap.objs.size) (.ref l) (.ref s.heap.objs.size)) _ _ { s with heap := s.heap.push (seqObj "list" #[] 0) } from ?_)⟩))
  unfold Builtin.List.listExtendWith
  refine wpAny_bind (wpAny_typeOf (T := "tuple") ⟨o, ho1, hc⟩ ?_)
  rw [if_pos (by rw [h1, h2]; simp)]
  refine wpAny_bind (listItems_at ho1 hd (wpAny_bind (listItems_at (xs := #[]) (n := 0) hn rfl ?_)))
  rw [if_neg (by simp)]
  refine wpAny_bind (listUpdate_at (xs := #[]) (n := 0) hn rfl (wpAny_pure ?_) (Nat.zero_le _) ?_)
  · show wpAny (model P w) A (load s.heap.objs.size >>= _) Q E { s with heap := fillH s.heap vs }
    refine wpAny_bind (wpAny_load (get?_update_seq hn _) ?_)
    have e : ((#[] : Array Value) ++ vs.toArray).toList = vs := by simp
    show wpAny _ _ (pure ((#[] : Array Value) ++ vs.toArray).toList) Q E _
    rw [e]; exact wpAny_pure h
  · show (#[] ++ vs.toArray).size ≤ sizeLine + 1
    simp only [Array.size_append, List.size_toArray, List.length_nil]; omega
theorem sortTup {l : Addr} {vs : List Value} {xs : List Str} {Q : Value → Shared → Prop} (hl : s.heap.IsTuple l vs.toArray) (hS : StrsAre vs xs) (h64 : vs.length < 64)
    (h : ∀ out : Array Value, StrsAre out.toList (sortS xs) → Q (.ref (s.heap.objs.size + 1)) { s with heap := sortedAll s.heap vs out }) :
    wpAny (model P w) A (call (.builtin "sorted") [.ref l]) Q E s := by
  refine Calls.call_function_entry kind_sorted plain_sorted entry_sorted (args_sorted1 _) ?_
  unfold Builtin.«sorted»
  have hz : vs.length ≤ sizeLine := by rw [sizeLine_eq]; omega
  refine wpAny_bind (m := checkCount "sorted" 1 1 _) (wpAny_pure (wpAny_bind (fromTup hl hz (wpAny_bind (wpAny_newList ?_ hz)))))
  have sz : (fillH s.heap vs).objs.size = s.heap.objs.size + 1 := by
    unfold fillH
    rw [Heap.size_update, size_push']
  have hoL : ((fillH s.heap vs).push (seqObj "list" vs.toArray 0)).get? (s.heap.objs.size + 1) = some (seqObj "list" vs.toArray 0) := by rw [← sz]; exact Heap.get?_push_size _ rfl
  show wpAny _ _ _ _ _ { s with heap := (fillH s.heap vs).push (seqObj "list" vs.toArray 0) }
  rw [sz]
  refine wpAny_bind (wpAny_holding (wpAny_call_entry PyProof.Rows.slot_list_sort ⟨_, hoL, rfl⟩ PyProof.Rows.entry_list_sort
    (list_sort_treeK strKind_oneLt (s := { s with heap := (fillH s.heap vs).push (seqObj "list" vs.toArray 0) }) hoL hS.keysOf (fun v₁ v₂ rest e => keyKind_strs (by rw [← e]; exact hS)) h64 fun st' hp hs => ⟨_, rfl, ?_⟩)
    (PyProof.Rows.args_list_sort _)))
  obtain ⟨ys, u1, u2, u3⟩ := sorted_out_str hS hp hs
  cases sortS_uniq u2 u3
  exact wpAny_pure ⟨_, rfl, h _ (by simpa using u1)⟩
end
section
variable {X : Cx}
def rSortT (K : PySem.W.Frag) : List V → Hp → VK → Prop := fun vs H Q => ∃ (a : Addr) (xs : List Str), vs = [V.ref a] ∧ (SqL K H a (xs.map V.str) ∨ SqT K H a (xs.map V.str)) ∧ xs.length < 64 ∧ ∀ p, H p = none → Q (.ref p) (upd H p (.lst ((sortS xs).map V.str)))
theorem cr_sortT' : CallR X (.builtin "sorted") (rSortT X.K) := by
  intro pins s σ H vs us Q I r h
  obtain ⟨a, xs, rfl, hs | hs, h64, q⟩ := h
  · exact cr_sortedS pins s σ H _ us Q I r ⟨a, xs, rfl, hs, h64, fun ys p h1 h2 h3 => by cases sortS_uniq h1 h2; exact q p h3⟩
  · obtain ⟨its, rv, hl, hz⟩ := I.tuple hs
    rw [Vals.ref1 r]
    have len := rv.length
    rw [List.length_map] at len
    refine sortTup hl rv.strs (by rw [← len]; exact h64) fun out h1 => ?_
    obtain ⟨ep, he⟩ := PyProof.Rows.sortedAll_at s.heap its out
    have hlen : ((sortS xs).map V.str).length ≤ sizeLine := by rw [List.length_map, (sortS_perm xs).length_eq, sizeLine_eq]; omega
    exact ⟨.ref _, upd H (s.heap.objs.size + 1) (.lst ((sortS xs).map V.str)), I.laid (t' := s.toks) (fun _ _ => PyProof.Rows.sortedAll_old) (Nat.le_succ _) ⟨hlen, out.toList, ep, vals_of_strs h1, he⟩, rfl, q _ (I.hok.fresh (Nat.le_succ _))⟩
end
section
variable {K : PySem.W.Frag}
def dSortT : List D → Option (List D)
  | [.list ds] => (strsD ds).bind fun ns => if ns.length < 64 then some ((sortS ns).map PyData.str) else none
  | [.tuple ds] => (strsD ds).bind fun ns => if ns.length < 64 then some ((sortS ns).map PyData.str) else none
  | _ => none
theorem cl_sortT : CL K (rSortT K) dSortT := by
  refine ⟨?_⟩
  intro H T vs ds out dis g h Q q
  unfold dSortT at h
  split at h
  · obtain ⟨ns, e, h⟩ := bind_some h
    split at h
    · rename_i hz
      cases h
      cases strs_some e
      obtain ⟨v, rfl, g2⟩ := dpa_one g
      obtain ⟨a, us, rfl, hs, gu⟩ := dp_lst g2
      cases dpa_strs_v gu
      exact ⟨a, ns, rfl, .inl (sql_ov dis hs), hz, fun p hn => q p _ H (Same.refl H) dis hn (dpa_strs _)⟩
    · cases h
  · obtain ⟨ns, e, h⟩ := bind_some h
    split at h
    · rename_i hz
      cases h
      cases strs_some e
      obtain ⟨v, rfl, g2⟩ := dpa_one g
      obtain ⟨a, us, rfl, hs, gu⟩ := dp_tup g2
      cases dpa_strs_v gu
      exact ⟨a, ns, rfl, .inr (sqt_ov dis hs), hz, fun p hn => q p _ H (Same.refl H) dis hn (dpa_strs _)⟩
    · cases h
  · cases h
/-! slices of lists, tuples and texts -/
def dSlY (d : D) (lo hi : Option Int) : Option D := match d with
  | .list ds => some (.list (cutD ds lo hi))
  | d => dSl d lo hi
def mSlY (a : En → Option D) (l h : En → Option (Option Int)) : En → Option D := fun ρ => (a ρ).bind fun x => (l ρ).bind fun lo => (h ρ).bind fun hi => dSlY x lo hi
def rSlY (K : PySem.W.Frag) : V → Option Int → Option Int → Hp → VK → Prop := fun x lo hi H Q => rSlX K x lo hi H Q ∨ rSlL K x lo hi H Q
theorem sl_any2 {X : Cx} : SlR X (rSlY X.K) := SlR.or sl_any sl_list
theorem ev_slY {ta : TE} {tl th : TO} {ma : En → Option D} {ml mh : En → Option (Option Int)} (ha : ET K ta ma) (hl : PAm K tl ml) (hh : PAm K th mh) : ET K (tSl (rSlY K) ta tl th) (mSlY ma ml mh) := by
  refine ⟨fun {H0 T0 σ ρ H T d} G h Q q => ?_⟩
  obtain ⟨x, hx, h1⟩ := bind_some h
  obtain ⟨lo, hlo, h2⟩ := bind_some h1
  obtain ⟨hi, hhi, h3⟩ := bind_some h2
  refine ha.run G hx _ fun v H1 s1 d1 p1 => ?_
  refine hl.run (G.mono s1 d1) hlo _ fun H2 s2 d2 => ?_
  refine hh.run ((G.mono s1 d1).mono s2 d2) hhi _ fun H3 s3 d3 => ?_
  have p3 := dp_mono (s2.trans s3) p1
  unfold dSlY at h3
  split at h3
  · cases h3
    obtain ⟨p, xs, rfl, hs, g⟩ := dp_lst p3
    refine .inr ⟨p, xs, rfl, sql_ov d3 hs, fun r nr => ?_⟩
    obtain ⟨nT, nH⟩ := ov_free nr
    rw [upd_ov nT]
    have s4 : Same H3 (upd H3 r (.lst (cutV xs lo hi))) := same_new nH
    exact q _ _ (((s1.trans s2).trans s3).trans s4) (dis_upd d3 nT nH) (.lst (SqL.of upd_same) (dpa_mono s4 (dpa_cut g lo hi)))
  · have E0 : ET K (tSl (rSlX K) ta tl th) (mSl ma ml mh) := ev_sl ha hl hh
    refine .inl ?_
    unfold dSl at h3
    split at h3
    · rename_i ds _
      cases h3
      obtain ⟨p, xs, rfl, hs, g⟩ := dp_tup p3
      refine .inl ⟨p, xs, rfl, sqt_ov d3 hs, fun hw => ?_, fun hw r nr => ?_⟩
      · have e : cutD ds lo hi = ds := by
          unfold cutD
          rw [← dpa_len g, hw.1, hw.2]
          rw [dpa_len g]
          simp
        exact q _ H3 ((s1.trans s2).trans s3) d3 (by rw [e]; exact p3)
      · obtain ⟨nT, nH⟩ := ov_free nr
        rw [upd_ov nT]
        have s4 : Same H3 (upd H3 r (.tup (cutV xs lo hi))) := same_new nH
        exact q _ _ (((s1.trans s2).trans s3).trans s4) (dis_upd d3 nT nH) (.tup (SqT.of upd_same) (dpa_mono s4 (dpa_cut g lo hi)))
    · rename_i z _
      split at h3
      · rename_i hz
        cases h3
        cases dp_str p3
        exact .inr ⟨z, rfl, cap_line hz, q _ H3 ((s1.trans s2).trans s3) d3 (.str _)⟩
      · cases h3
    · cases h3
end
end DD

set_option Elab.async false
set_option linter.all false
set_option maxRecDepth 100000
set_option maxHeartbeats 4000000
/-! what may be raised, and caught; item = .., str(..), join, split -/
namespace DD
variable [TabQ] [ExQ]
open PySem PySem.Spec PyProof.Rows L2
/-- what a def comes to: a datum, or an exception of the class with this name -/
inductive Rs where
  | ok (d : D)
  | ex (c : Nat)
inductive FlX where
  | fl (f : Fl)
  | ex (c : Nat) (ρ : En)
section
variable (K : PySem.W.Frag) (cl : Nat → Addr)
def RsOk (H : Hp) (T : Ov) (Q : VK) (E : XK) : Rs → Prop
  | .ok d => ∀ v H', Same H H' → Dis H' T → Dp K H' v d → Q v (ov H' T)
  | .ex c => ∀ H', Same H H' → Dis H' T → E (.ref (cl c)) none (ov H' T)
def spX (n : Nat) (m : List D → Option Rs) : Sp := fun vs Hx Q E => ∃ ds r H T, DpAll K H vs ds ∧ ds.length = n ∧ m ds = some r ∧ Hx = ov H T ∧ Dis H T ∧ RsOk K cl H T Q E r
structure EX (te : WX → TE) (m : En → Option Rs) : Prop where
  run : ∀ {H0 : Hp} {T0 : Ov} {σ : L2.St} {ρ : En} {H : Hp} {T : Ov} {r : Rs}, Good K H0 T0 σ ρ H T → m ρ = some r → ∀ (W : WX) (Q : VK), RsOk K cl H T Q (fun c d h => W c d σ h) r → te W σ (ov H T) Q
def FlXOk (H0 : Hp) (T0 : Ov) (E : Ends) (W : WX) : FlX → Prop
  | .fl f => FlOk K H0 T0 E f
  | .ex c ρ => ∀ σ H T, Good K H0 T0 σ ρ H T → W (.ref (cl c)) none σ (ov H T)
structure SX (t : WX → TS) (m : En → Option FlX) : Prop where
  run : ∀ {H0 : Hp} {T0 : Ov} {σ : L2.St} {ρ : En} {H : Hp} {T : Ov} {x : FlX}, Good K H0 T0 σ ρ H T → m ρ = some x → ∀ (W : WX) (E : Ends), FlXOk K cl H0 T0 E W x → t W E σ (ov H T)
end
def okR : Rs → Option D
  | .ok d => some d
  | .ex _ => none
def limX (n : Nat) (m : List D → Option Rs) : List D → Option D := fun ds => if ds.length = n then (m ds).bind okR else none
def xLift (m : En → Option D) : En → Option Rs := fun ρ => (m ρ).map .ok
def xCall (n : Nat) (mf : List D → Option Rs) (m : En → Option (List D)) : En → Option Rs := fun ρ => (m ρ).bind fun ds => if ds.length = n then mf ds else none
def xThen (f : List D → Option D) (m : En → Option Rs) : En → Option Rs := fun ρ => (m ρ).bind fun r => match r with
  | .ok d => (f [d]).map .ok
  | .ex c => some (.ex c)
def xFl (m : En → Option Fl) : En → Option FlX := fun ρ => (m ρ).map .fl
def xSeq (a b : En → Option FlX) : En → Option FlX := fun ρ => (a ρ).bind fun x => match x with
  | .fl (.nx ρ') => b ρ'
  | x => some x
def xIf (c : En → Option Bool) (a b : En → Option FlX) : En → Option FlX := fun ρ => (c ρ).bind fun x => if x = true then a ρ else b ρ
def xRet (m : En → Option Rs) : En → Option FlX := fun ρ => (m ρ).bind fun r => match r with
  | .ok d => some (.fl (.rt d))
  | .ex c => some (.ex c ρ)
def xDrop (m : En → Option Rs) : En → Option FlX := fun ρ => (m ρ).bind fun r => match r with
  | .ok _ => some (.fl (.nx ρ))
  | .ex c => some (.ex c ρ)
def xSet (i : Nat) (m : En → Option Rs) : En → Option FlX := fun ρ => (m ρ).bind fun r => match r with
  | .ok d => some (.fl (.nx (ρ.set i (some (.val d)))))
  | .ex c => some (.ex c ρ)
def xRaise (c : Nat) : En → Option FlX := fun ρ => some (.ex c ρ)
def xDef (N : Nat) (b : En → Option FlX) (ds : List D) : Option Rs := (b (start0 N ds)).bind fun x => match x with
  | .fl (.rt d) => some (.ok d)
  | .fl (.nx _) => some (.ok .none)
  | .ex c _ => some (.ex c)
  | _ => none
section
variable {K : PySem.W.Frag} {cl : Nat → Addr}
theorem passNo {X : Cx} (σ : L2.St) : PassesAt (L2.CX X.prog X.w) X σ (fun _ _ _ => False) := fun _ _ _ _ _ _ c => by
  obtain ⟨_, _, _, _, _, _, _, _, _, _, _, _, z⟩ := c
  exact z.elim
theorem ev_callX {n : Nat} {mf : List D → Option Rs} {t : TA} {m : En → Option (List D)} {E : L2.St → XK} (ha : TAm K t m) : ET K (tCallS (spX K cl n mf) E t) (mCall (limX n mf) m) := by
  refine ⟨fun {H0 T0 σ ρ H T d} G h Q q => ?_⟩
  obtain ⟨x, hx, h⟩ := bind_some h
  refine ha.run G hx _ fun vs H1 s1 d1 p1 => ?_
  unfold limX at h
  split at h
  · rename_i hn
    obtain ⟨r, hr, h⟩ := bind_some h
    cases r with
    | ok d' =>
      cases h
      exact ⟨x, .ok d, H1, T, p1, hn, hr, rfl, d1, fun v H' s2 d2 p2 => q v H' (s1.trans s2) d2 p2⟩
    | ex c => cases h
  · cases h
theorem ex_lift {te : TE} {m : En → Option D} (h : ET K te m) : EX K cl (fun _ => te) (xLift m) := by
  refine ⟨fun {H0 T0 σ ρ H T r} G hm W Q q => ?_⟩
  obtain ⟨d, hd, e⟩ := map_some hm
  subst e
  exact h.run G hd Q q
theorem ex_call {n : Nat} {mf : List D → Option Rs} {t : TA} {m : En → Option (List D)} (ha : TAm K t m) : EX K cl (fun W => tCallS (spX K cl n mf) (WE W) t) (xCall n mf m) := by
  refine ⟨fun {H0 T0 σ ρ H T r} G h W Q q => ?_⟩
  obtain ⟨x, hx, h⟩ := bind_some h
  refine ha.run G hx _ fun vs H1 s1 d1 p1 => ?_
  split at h
  · rename_i hn
    refine ⟨x, r, H1, T, p1, hn, h, rfl, d1, ?_⟩
    cases r with
    | ok d => exact fun v H' s2 d2 p2 => q v H' (s1.trans s2) d2 p2
    | ex c => exact fun H' s2 d2 => q H' (s1.trans s2) d2
  · cases h
theorem ex_then {te : WX → TE} {m : En → Option Rs} {mf : List D → Option D} {E : XK} (h : EX K cl te m) : EX K cl (fun W => tCall (spM K 1 mf) [] E (tCons (te W) tNil)) (xThen (lim 1 mf) m) := by
  refine ⟨fun {H0 T0 σ ρ H T r} G hm W Q q => ?_⟩
  obtain ⟨r1, h1, hm⟩ := bind_some hm
  cases r1 with
  | ok d =>
    obtain ⟨d2, h2, e⟩ := map_some hm
    subst e
    refine h.run G h1 W _ fun v H1 s1 d1 p1 => ?_
    show spM K 1 mf ([v] ++ []) (ov H1 T) Q E
    exact ⟨[d], d2, H1, T, .cons p1 .nil, rfl, h2, rfl, d1, fun w H3 s3 d3 p3 => q w H3 (s1.trans s3) d3 p3⟩
  | ex c =>
    cases hm
    exact h.run G h1 W _ q
theorem sx_lift {t : TS} {m : En → Option Fl} (h : TSm K t m) : SX K cl (fun _ => t) (xFl m) := by
  refine ⟨fun {H0 T0 σ ρ H T x} G hm W E q => ?_⟩
  obtain ⟨f, hf, e⟩ := map_some hm
  subst e
  exact h.run G hf E q
theorem sx_seq {t u : WX → TS} {m1 m2 : En → Option FlX} (h1 : SX K cl t m1) (h2 : SX K cl u m2) : SX K cl (fun W => tSeq (t W) (u W)) (xSeq m1 m2) := by
  refine ⟨fun {H0 T0 σ ρ H T x} G h W E q => ?_⟩
  obtain ⟨y, hy, h⟩ := bind_some h
  refine h1.run G hy W _ ?_
  cases y with
  | fl f =>
    cases f with
    | nx ρ' => exact fun σ' H' T' G' => h2.run G' h W E q
    | rt d => cases h; exact q
    | bk ρ' => cases h; exact q
    | ct ρ' => cases h; exact q
  | ex c ρ' => cases h; exact q
theorem sx_if {tc : TT} {mc : En → Option Bool} {t u : WX → TS} {m1 m2 : En → Option FlX} (hc : TTm K tc mc) (h1 : SX K cl t m1) (h2 : SX K cl u m2) : SX K cl (fun W => tIfS tc (t W) (u W)) (xIf mc m1 m2) := by
  refine ⟨fun {H0 T0 σ ρ H T f} G h W E q => ?_⟩
  obtain ⟨x, hx, h⟩ := bind_some h
  refine hc.run G hx _ fun H1 s1 d1 => ?_
  cases x with
  | true =>
    rw [if_pos rfl] at h ⊢
    exact h1.run (G.mono s1 d1) h W E q
  | false =>
    rw [if_neg Bool.false_ne_true] at h ⊢
    exact h2.run (G.mono s1 d1) h W E q
theorem sx_ret {te : WX → TE} {m : En → Option Rs} (h : EX K cl te m) : SX K cl (fun W => tRet (te W)) (xRet m) := by
  refine ⟨fun {H0 T0 σ ρ H T x} G hm W E q => ?_⟩
  obtain ⟨r, hr, hm⟩ := bind_some hm
  refine h.run G hr W _ ?_
  cases r with
  | ok d => cases hm; exact fun v H1 s1 d1 p1 => q v H1 T (G.ex.trans s1) d1 G.ext p1
  | ex c => cases hm; exact fun H1 s1 d1 => q σ H1 T (G.mono s1 d1)
theorem sx_drop {te : WX → TE} {m : En → Option Rs} (h : EX K cl te m) : SX K cl (fun W => tDrop (te W)) (xDrop m) := by
  refine ⟨fun {H0 T0 σ ρ H T x} G hm W E q => ?_⟩
  obtain ⟨r, hr, hm⟩ := bind_some hm
  refine h.run G hr W _ ?_
  cases r with
  | ok d => cases hm; exact fun v H1 s1 d1 p1 => q σ H1 T (G.mono s1 d1)
  | ex c => cases hm; exact fun H1 s1 d1 => q σ H1 T (G.mono s1 d1)
theorem sx_set {te : WX → TE} {m : En → Option Rs} (i : Nat) (h : EX K cl te m) : SX K cl (fun W => tAsg (te W) (gName i)) (xSet i m) := by
  refine ⟨fun {H0 T0 σ ρ H T x} G hm W E q => ?_⟩
  obtain ⟨r, hr, hm⟩ := bind_some hm
  refine h.run G hr W _ ?_
  cases r with
  | ok d => cases hm; exact fun v H1 s1 d1 p1 => q _ H1 T ((G.mono s1 d1).set p1)
  | ex c => cases hm; exact fun H1 s1 d1 => q σ H1 T (G.mono s1 d1)
theorem sx_raise (c : Nat) : SX K cl (fun W _ σ H => W (.ref (cl c)) none σ H) (xRaise c) := by
  refine ⟨fun {H0 T0 σ ρ H T x} G hm W E q => ?_⟩
  cases hm
  exact q σ H T G
/-- a def that may raise -/
theorem def_okX {P : Program} {w : World} {mg : Str → Option Value} {base : Heap} {x qual : Str} {st : Stmt} {f : Addr} {fd : FuncData} {N ps : List Str} {k : Nat} {mb : En → Option FlX} (F : Fun K x qual st f fd) (S : FnScope N ps (defScope st))
    (hbody : ∀ (cdv : Value) (A : Around) (outer : List Env) (s : Shared) (H : Hp) (E : XK), Room k (A.deeper (envOfC qual (defScope st) s.heap.objs.size f cdv)) →
      ∃ t : WX → TS, PSs (cxOf (L2.CX P w) P w K mg base N qual (defScope st) f cdv A outer s H E) (defBody st) (t fun c d _ h => E c d h) ∧ SX K cl t mb) : FnOk P w K mg base (L2.CX P w) (k + 1) f fd ps (spX K cl ps.length (xDef N.length mb)) := by
  refine F.okX S (fun vs H Q E h => ?_) (fun cdv A outer s Hx vs Q E hr h => ?_)
  · obtain ⟨ds, r, H, T, g, hn, _⟩ := h
    rw [dpa_len g, hn]
  · obtain ⟨ds, r, H, T, g, hn, hm, rfl, dis, q⟩ := h
    obtain ⟨t, p, m⟩ := hbody cdv A outer s (ov H T) E hr
    refine ⟨_, p, ?_⟩
    obtain ⟨y, hy, hm⟩ := bind_some hm
    refine m.run (good_start g dis) hy _ _ ?_
    cases y with
    | fl fl =>
      cases fl with
      | rt d' =>
        cases hm
        intro v H' T' s1 d1 e1 p1
        obtain ⟨H2, e2, s2, d2, s3⟩ := back dis s1 d1 e1
        show Q v (ov H' T')
        rw [e2]
        exact q v H2 s2 d2 (dp_mono s3 p1)
      | nx ρ =>
        cases hm
        intro σ' H' T' G'
        obtain ⟨H2, e2, s2, d2, s3⟩ := back dis G'.ex G'.dis G'.ext
        show Q .non (ov H' T')
        rw [e2]
        exact q _ H2 s2 d2 .non
      | bk ρ => cases hm
      | ct ρ => cases hm
    | ex c ρ =>
      cases hm
      intro σ' H' T' G'
      obtain ⟨H2, e2, s2, d2, s3⟩ := back dis G'.ex G'.dis G'.ext
      show E (.ref (cl c)) none (ov H' T')
      rw [e2]
      exact q H2 s2 d2
/-! caught -/
/-- the suite, for exceptions of one class -/
theorem pss_cls {X : Cx} {C : Addr} {oe : Obj} {cls : Value} {d : Option Addr} {b : List Stmt} {t : TS} (hz : Zc cls d oe) (h : Zc (.ref C) none oe → PSs X b t) : PSs X b (fun D σ H => (cls = .ref C ∧ d = none) ∧ t D σ H) :=
  ⟨fun pins s σ H D I q => by
    obtain ⟨⟨rfl, rfl⟩, q⟩ := q
    exact (h hz).run pins s σ H D I q⟩
/-- what an expression of a suite comes to, the exception at a in slot i -/
structure SB (i : Nat) (te : Addr → TE) (v : V) : Prop where
  run : ∀ (a : Addr) (σ : L2.St) (H : Hp) (Q : VK), σ[i]? = some (some (.ref a)) → Q v H → te a σ H Q
structure SBT (i : Nat) (tt : Addr → TT) (b : Bool) : Prop where
  run : ∀ (a : Addr) (σ : L2.St) (H : Hp) (Q : Bool → Hp → Prop), σ[i]? = some (some (.ref a)) → Q b H → tt a σ H Q
theorem sb_is {i : Nat} {D Y : Addr} {b : Bool} (k : PySem.W.kitOne K (.ref D) (.ref Y) = some b) : SB i (fun a => tCB (rIsE K D a) (tCons (tVar i) (tCons (tC (.ref Y)) tNil))) (.bl b) :=
  ⟨fun a σ H Q h q => ⟨.ref a, h, .ref Y, .ref Y, b, rfl, fun _ r => r, k, q⟩⟩
theorem sb_and {i : Nat} {ta tb : Addr → TE} {b c : Bool} (h1 : SB i ta (.bl b)) (h2 : SB i tb (.bl c)) : SB i (fun a => tAndV (ta a) (tb a)) (.bl (b && c)) :=
  ⟨fun a σ H Q h q => h1.run a σ H _ h ⟨b, rfl, by
    cases b with
    | true => rw [if_pos rfl]; exact h2.run a σ H Q h q
    | false => rw [if_neg Bool.false_ne_true]; exact q⟩⟩
theorem sb_not {i : Nat} {ta : Addr → TE} {b : Bool} (h1 : SB i ta (.bl b)) : SB i (fun a => tNotV (ta a)) (.bl (!b)) := ⟨fun a σ H Q h q => h1.run a σ H _ h ⟨b, rfl, q⟩⟩
theorem sb_c {i : Nat} {v : V} : SB i (fun _ => tC v) v := ⟨fun a σ H Q h q => q⟩
theorem sbt_tru {i : Nat} {ta : Addr → TE} {b : Bool} (h1 : SB i ta (.bl b)) : SBT i (fun a => tTru K (ta a)) b := ⟨fun a σ H Q h q => h1.run a σ H _ h ⟨b, rfl, q⟩⟩
theorem sb_if {i : Nat} {tt : Addr → TT} {ta tb : Addr → TE} {b : Bool} {v w : V} (h : SBT i tt b) (h1 : SB i ta v) (h2 : SB i tb w) : SB i (fun a => tIf (tt a) (ta a) (tb a)) (if b = true then v else w) :=
  ⟨fun a σ H Q e q => h.run a σ H _ e (by
    cases b with
    | true => rw [if_pos rfl] at q ⊢; exact h1.run a σ H Q e q
    | false => rw [if_neg Bool.false_ne_true] at q ⊢; exact h2.run a σ H Q e q)⟩
def sTry (i : Nat) (c0 : Nat) (d0 : D) (b : En → Option FlX) : En → Option Fl := fun ρ => (b ρ).bind fun x => match x with
  | .fl f => some f
  | .ex c ρ' => if c = c0 ∧ i < ρ'.length then some (.rt d0) else none
/-- try: .. except c as e: return .. -/
theorem st_try {i : Nat} {c0 : Nat} {C : Addr} {d0 : D} {v0 : V} {tb : WX → TS} {te : Addr → TE} {mb : En → Option FlX} (hb : SX K cl tb mb) (hx : PySem.W.exmOne K (.ref (cl c0)) (.ref C) = some true) (hs : SB i te v0) (hd : ∀ H, Dp K H v0 d0) :
    TSm K (fun D σ H => tb (wAs K (.ref C) i (fun a cls d D σ H => (cls = .ref (cl c0) ∧ d = none) ∧ tRet (te a) D σ H) (fun _ _ _ _ => False) D) D σ H) (sTry i c0 d0 mb) := by
  refine ⟨fun {H0 T0 σ ρ H T f} G h E q => ?_⟩
  obtain ⟨x, hx1, h⟩ := bind_some h
  refine hb.run G hx1 _ E ?_
  cases x with
  | fl f' => cases h; exact q
  | ex c ρ' =>
    by_cases hc : c = c0 ∧ i < ρ'.length
    · have h' : some (Fl.rt d0) = some f := by
        have : (if c = c0 ∧ i < ρ'.length then some (Fl.rt d0) else none) = some f := h
        rwa [if_pos hc] at this
      cases h'
      obtain ⟨rfl, hi⟩ := hc
      intro σ' H' T' G'
      refine ⟨true, hx, fun _ a na => ⟨⟨rfl, rfl⟩, ?_⟩, fun z => (nomatch z)⟩
      exact hs.run a _ _ _ (set_self (by rw [← G'.len]; exact hi)) (q v0 H' T' G'.ex G'.dis G'.ext (hd _))
    · have : (if c = c0 ∧ i < ρ'.length then some (Fl.rt d0) else none) = some f := h
      rw [if_neg hc] at this
      cases this
/-! item = value, str, join, split -/
theorem dpa_set {H : Hp} : ∀ {xs : List V} {ds : List D} {v : V} {d : D} (j : Nat), DpAll K H xs ds → Dp K H v d → DpAll K H (xs.set j v) (ds.set j d)
  | _, _, _, _, _, .nil, _ => .nil
  | _, _, _, _, 0, .cons _ t, g => .cons g t
  | _, _, _, _, j + 1, .cons h t, g => .cons h (dpa_set j t g)
def sItem (i : Nat) (mk ma : En → Option D) : En → Option Fl := fun ρ => match ρ[i]? with
  | some (some (.own ds)) => (ma ρ).bind fun d => (mk ρ).bind fun k => match k with
    | .int k => (ixN ds.length k).map fun j => .nx (ρ.set i (some (.own (ds.set j d))))
    | _ => none
  | _ => none
theorem st_item {i : Nat} {te tk : TE} {mk ma : En → Option D} (ha : ET K te ma) (hk : ET K tk mk) : TSm K (tAsg te (gSub (tVar i) tk rSetL)) (sItem i mk ma) := by
  refine ⟨fun {H0 T0 σ ρ H T f} G h E q => ?_⟩
  unfold sItem at h
  split at h
  · rename_i ds e
    obtain ⟨d, hd, h⟩ := bind_some h
    obtain ⟨kd, hkd, h⟩ := bind_some h
    split at h
    · rename_i k
      obtain ⟨j, hj, h⟩ := map_some h
      subst h
      refine ha.run G hd _ fun v H1 s1 d1 p1 => ?_
      have G1 := G.mono s1 d1
      obtain ⟨p, xs, a, b, c, g⟩ := G1.own i ds e
      refine ⟨.ref p, a, ?_⟩
      refine hk.run G1 hkd _ fun u H2 s2 d2 p2 => ?_
      have G2 := G1.mono s2 d2
      obtain ⟨p', xs', a', b', c', g'⟩ := G2.own i ds e
      rw [a] at a'
      cases a'
      rw [b] at b'
      cases b'
      cases p2
      refine ⟨p, xs, k, j, rfl, rfl, ov_own b, by rw [dpa_len g']; exact hj, ?_⟩
      rw [upd_put]
      exact q _ _ _ (G2.turn e a b (dpa_set j g' (dp_mono s2 p1)))
    · cases h
  · cases h
def rStrA : List V → Hp → VK → Prop := fun xs H Q => (∃ i, xs = [V.int i] ∧ i.natAbs.log2 < 1920 ∧ Q (.str (toString i)) H) ∨ ∃ a, xs = [V.str a] ∧ Q (.str a) H
theorem cr_strA {X : Cx} : CallR X (.type "str") rStrA := by
  intro pins s σ H xs us Q I r h
  rcases h with h | h
  · exact call_str_int pins s σ H xs us Q I r h
  · exact SkE.call_str_str pins s σ H xs us Q I r h
def strI (i : Int) : Str := toString i
def dStrA : List D → Option D
  | [.int i] => if i.natAbs.log2 < 1920 then some (.str (strI i)) else none
  | [.str a] => some (.str a)
  | _ => none
theorem cd_strA : CD K rStrA dStrA := by
  refine ⟨fun {H T vs ds d} dis h e Q q => ?_⟩
  unfold dStrA at e
  split at e
  · split at e
    · rename_i hz
      cases e
      obtain ⟨v, rfl, g⟩ := dpa_one h
      cases g
      exact .inl ⟨_, rfl, hz, q _ H (Same.refl H) dis (.str _)⟩
    · cases e
  · cases e
    obtain ⟨v, rfl, g⟩ := dpa_one h
    cases dp_str g
    exact .inr ⟨_, rfl, q _ H (Same.refl H) dis (.str _)⟩
  · cases e
abbrev rJoinD (K : PySem.W.Frag) : V → List V → Hp → VK → Prop := fun x xs H Q => ∃ a p, ∃ ys : List Str, x = .str a ∧ xs = [.ref p] ∧ (SqL K H p (ys.map V.str) ∨ SqT K H p (ys.map V.str)) ∧ (ys.map (·.length)).sum + ys.length * a.length ≤ 16777216 ∧ Q (.str (Txt.join a ys)) H
def dJoin : D → D → Option D
  | .str a, .list ds => (strsD ds).bind fun ns => if (ns.map (·.length)).sum + ns.length * a.length ≤ 16777216 then some (.str (Txt.join a ns)) else none
  | .str a, .tuple ds => (strsD ds).bind fun ns => if (ns.map (·.length)).sum + ns.length * a.length ≤ 16777216 then some (.str (Txt.join a ns)) else none
  | _, _ => none
theorem ev_join {to ta : TE} {mo ma : En → Option D} (ho : ET K to mo) (ha : ET K ta ma) : ET K (tBM K "str" (rJoinD K) to (tCons ta tNil)) (mOp dJoin mo ma) := by
  refine ⟨fun {H0 T0 σ ρ H T d} G h Q q => ?_⟩
  obtain ⟨x, hx, h⟩ := bind_some h
  obtain ⟨y, hy, h⟩ := bind_some h
  refine ho.run G hx _ fun v H1 s1 d1 p1 => ?_
  unfold dJoin at h
  split at h
  · rename_i a ds
    obtain ⟨ns, e, h⟩ := bind_some h
    split at h
    · rename_i hz
      cases h
      cases strs_some e
      cases dp_str p1
      refine ⟨rfl, ?_⟩
      refine ha.run (G.mono s1 d1) hy _ fun u H2 s2 d2 p2 => ?_
      obtain ⟨p, us, rfl, hs, gu⟩ := dp_lst p2
      cases dpa_strs_v gu
      exact ⟨_, p, ns, rfl, rfl, .inl (sql_ov d2 hs), hz, q _ H2 (s1.trans s2) d2 (.str _)⟩
    · cases h
  · rename_i a ds
    obtain ⟨ns, e, h⟩ := bind_some h
    split at h
    · rename_i hz
      cases h
      cases strs_some e
      cases dp_str p1
      refine ⟨rfl, ?_⟩
      refine ha.run (G.mono s1 d1) hy _ fun u H2 s2 d2 p2 => ?_
      obtain ⟨p, us, rfl, hs, gu⟩ := dp_tup p2
      cases dpa_strs_v gu
      exact ⟨_, p, ns, rfl, rfl, .inr (sqt_ov d2 hs), hz, q _ H2 (s1.trans s2) d2 (.str _)⟩
    · cases h
  · cases h
end
end DD
namespace DD
variable [TabQ] [ExQ]
open PySem PySem.Spec PyProof.Rows L2
theorem kit_of {K : PySem.W.Frag} {D C : Addr} {b : Bool} (hc : PySem.W.isClsIn K C = true) (ht : PySem.W.typeIn K (.ref C) = some (.type "type")) (hs : PySem.W.subIn K (.ref D) (.ref C) = some b) (hself : PySem.W.subIn K (.ref C) (.ref C) = some true) : PySem.W.kitOne K (.ref D) (.ref C) = some b := by
  unfold PySem.W.kitOne
  split
  · rename_i h
    have e : Value.ref D = Value.ref C := by simpa using h
    cases e
    rw [hself] at hs
    exact hs
  · have hc' : (PySem.W.clsIn K C).isSome = true := hc
    show (if ((PySem.W.clsIn K C).isSome && PySem.W.typeIn K (.ref C) == some (.type "type")) = true then PySem.W.subIn K (.ref D) (.ref C) else none) = some b
    rw [hc', ht]
    exact hs
end DD
namespace DD
variable [TabQ] [ExQ]
open PySem PySem.Spec PyProof.Rows L2
theorem pg_or {X : Cx} {e : Expr} {t u : TG} (h1 : PG X e t) (h2 : PG X e u) : PG X e (fun v σ H Q => t v σ H Q ∨ u v σ H Q) := by
  refine ⟨fun pins s σ H v x Q I r h => ?_⟩
  rcases h with h | h
  · exact h1.run pins s σ H v x Q I r h
  · exact h2.run pins s σ H v x Q I r h
def gAnyM (n : Nat) (g : List D → En → Option En) (d : D) (ρ : En) : Option En := match d with
  | .tuple ds => if ds.length = n then g ds ρ else none
  | .list ds => if ds.length = n then g ds ρ else none
  | _ => none
theorem tg_any {K : PySem.W.Frag} {vs : List Nat} {n : Nat} {gs : TGs} {mr : List D → En → Option En} (h : TGsm K vs gs mr) : TGm K vs (fun v σ H Q => gTup K n gs v σ H Q ∨ gLst K n gs v σ H Q) (gAnyM n mr) := by
  refine ⟨fun {H0 T0 σ ρ ρ2 H T v d} G g e Q q => ?_⟩
  unfold gAnyM at e
  split at e
  · split at e
    · rename_i hn
      obtain ⟨p, xs, rfl, hs, ga⟩ := dp_tup g
      exact .inl ⟨p, xs, rfl, sqt_ov G.dis hs, by rw [dpa_len ga]; exact hn, h.run G ga e Q q⟩
    · cases e
  · split at e
    · rename_i hn
      obtain ⟨p, xs, rfl, hs, ga⟩ := dp_lst g
      exact .inr ⟨p, xs, rfl, sql_ov G.dis hs, by rw [dpa_len ga]; exact hn, h.run G ga e Q q⟩
    · cases e
  · cases e
end DD

set_option Elab.async false
set_option linter.all false
set_option maxRecDepth 100000
set_option maxHeartbeats 4000000
/-! a text split at another -/
namespace DD
variable [TabQ] [ExQ]
open PySem PySem.Spec PyProof.Rows L2
section
variable {K : PySem.W.Frag}
abbrev rSplitD : V → List V → Hp → VK → Prop := fun x xs H Q => ∃ a b, x = .str a ∧ xs = [.str b] ∧ (b.length == 0) = false ∧ a.length + 2 ≤ sizeLine ∧ rNewStrs (Txt.split a b) H Q
def dSplit : D → D → Option D
  | .str a, .str b => if (b.length == 0) = false ∧ a.length + 2 ≤ 16777216 then some (.list ((Txt.split a b).map PyData.str)) else none
  | _, _ => none
theorem ev_split {to ta : TE} {mo ma : En → Option D} (ho : ET K to mo) (ha : ET K ta ma) : ET K (tBM K "str" rSplitD to (tCons ta tNil)) (mOp dSplit mo ma) := by
  refine ⟨fun {H0 T0 σ ρ H T d} G h Q q => ?_⟩
  obtain ⟨x, hx, h⟩ := bind_some h
  obtain ⟨y, hy, h⟩ := bind_some h
  refine ho.run G hx _ fun v H1 s1 d1 p1 => ?_
  unfold dSplit at h
  split at h
  · rename_i a b _
    split at h
    · rename_i hz
      cases h
      cases dp_str p1
      refine ⟨rfl, ?_⟩
      refine ha.run (G.mono s1 d1) hy _ fun u H2 s2 d2 p2 => ?_
      cases dp_str p2
      refine ⟨_, _, rfl, rfl, hz.1, by rw [sizeLine_eq]; exact hz.2, fun p nr => ?_⟩
      obtain ⟨nT, nH⟩ := ov_free nr
      rw [upd_ov nT]
      have s4 : Same H2 (upd H2 p (.lst ((Txt.split a b).map V.str))) := same_new nH
      exact q _ _ ((s1.trans s2).trans s4) (dis_upd d2 nT nH) (.lst (SqL.of upd_same) (dpa_mono s4 (dpa_strs _)))
    · cases h
  · cases h
end
end DD

set_option Elab.async false
set_option linter.all false
set_option maxRecDepth 100000
set_option maxHeartbeats 4000000
/-! a def that calls itself: as deep as a number tells -/
namespace DD
variable [TabQ] [ExQ]
open PySem PySem.Spec PyProof.Rows L2
section
variable {P : Program} {w : World} {K : PySem.W.Frag} {mg : Str → Option Value} {base : Heap} {CX : CXT} {k c : Nat} {f : Addr} {fd : FuncData} {ps : List Str}
theorem fn_none (h : c = ps.length) : FnOk P w K mg base CX k f fd ps (spM K c fun _ => none) := by
  refine ⟨fun vs H Q E x => ?_, fun A outer s H args us vs Q E hr e0 hb r x => ?_⟩
  · obtain ⟨ds, d, H', T, _, _, z, _⟩ := x
    cases z
  · obtain ⟨ds, d, H', T, _, _, z, _⟩ := x
    cases z
theorem fn_rec {m : Nat → List D → Option D} (hc : c = ps.length) (h0 : m 0 = fun _ => none) (hs : ∀ n, FnOk P w K mg base CX (k + n) f fd ps (spM K c (m n)) → FnOk P w K mg base CX (k + n + 1) f fd ps (spM K c (m (n + 1)))) : ∀ n, FnOk P w K mg base CX (k + n) f fd ps (spM K c (m n))
  | 0 => by
    rw [h0]
    exact fn_none hc
  | n + 1 => hs n (fn_rec hc h0 hs n)
end
end DD

set_option Elab.async false
set_option linter.all false
set_option maxRecDepth 100000
set_option maxHeartbeats 4000000
/-! int(), abs(), a sign's place in a text; suites that tell lists; several classes in one try; raising defs that call themselves -/
namespace DD
variable [TabQ] [ExQ]
open PySem PySem.Spec PyProof.Rows L2
section
variable {K : PySem.W.Frag}
def rIntA : List V → Hp → VK → Prop := fun xs H Q => ((∃ i, xs = [V.int i] ∧ Q (.int i) H) ∨ ∃ k, xs = [V.bl k] ∧ Q (.int (if k then 1 else 0)) H) ∨ ∃ a n, xs = [V.str a] ∧ PySem.intText? a = some n ∧ a.length ≤ 640 ∧ Q (.int n) H
theorem cr_intA {X : Cx} : CallR X (.type "int") rIntA := by
  intro pins s σ H xs us Q I r h
  rcases h with h | h
  · exact call_int1 pins s σ H xs us Q I r h
  · exact call_int_str pins s σ H xs us Q I r h
def dIntA : List D → Option D
  | [.int i] => some (.int i)
  | [.bool k] => some (.int (if k then 1 else 0))
  | [.str a] => if a.length ≤ 640 then (PySem.intText? a).map .int else none
  | _ => none
theorem cd_intA : CD K rIntA dIntA := by
  refine ⟨fun {H T vs ds d} dis h e Q q => ?_⟩
  unfold dIntA at e
  split at e
  · cases e
    obtain ⟨v, rfl, g⟩ := dpa_one h
    cases g
    exact .inl (.inl ⟨_, rfl, q _ H (Same.refl H) dis (.int _)⟩)
  · cases e
    obtain ⟨v, rfl, g⟩ := dpa_one h
    cases g
    exact .inl (.inr ⟨_, rfl, q _ H (Same.refl H) dis (.int _)⟩)
  · split at e
    · rename_i hz
      obtain ⟨n, hn, e⟩ := map_some e
      subst e
      obtain ⟨v, rfl, g⟩ := dpa_one h
      cases dp_str g
      exact .inr ⟨_, n, rfl, hn, hz, q _ H (Same.refl H) dis (.int _)⟩
    · cases e
  · cases e
def rAbs : List V → Hp → VK → Prop := fun xs H Q => ∃ i, xs = [V.int i] ∧ Q (.int (if i < 0 then -i else i)) H
theorem cr_abs {X : Cx} : CallR X (.builtin "abs") rAbs := call_abs
def dAbs : List D → Option D
  | [.int i] => some (.int (if i < 0 then -i else i))
  | _ => none
theorem cd_abs : CD K rAbs dAbs := by
  refine ⟨fun {H T vs ds d} dis h e Q q => ?_⟩
  unfold dAbs at e
  split at e
  · cases e
    obtain ⟨v, rfl, g⟩ := dpa_one h
    cases g
    exact ⟨_, rfl, q _ H (Same.refl H) dis (.int _)⟩
  · cases e
abbrev rSIndex : V → List V → Hp → VK → Prop := fun x xs H Q => ∃ a b i rest, x = .str a ∧ xs = [.str b] ∧ Builtin.Str.occurrences a b 0 a.length 1 = i :: rest ∧ Q (.int (i : Nat)) H
def dSIndex : D → D → Option D
  | .str a, .str b => match Builtin.Str.occurrences a b 0 a.length 1 with
    | i :: _ => some (.int (i : Nat))
    | [] => none
  | _, _ => none
theorem ev_sindex {to ta : TE} {mo ma : En → Option D} (ho : ET K to mo) (ha : ET K ta ma) : ET K (tBM K "str" rSIndex to (tCons ta tNil)) (mOp dSIndex mo ma) := by
  refine ⟨fun {H0 T0 σ ρ H T d} G h Q q => ?_⟩
  obtain ⟨x, hx, h⟩ := bind_some h
  obtain ⟨y, hy, h⟩ := bind_some h
  refine ho.run G hx _ fun v H1 s1 d1 p1 => ?_
  unfold dSIndex at h
  split at h
  · split at h
    · rename_i hz
      cases h
      cases dp_str p1
      refine ⟨rfl, ?_⟩
      refine ha.run (G.mono s1 d1) hy _ fun u H2 s2 d2 p2 => ?_
      cases dp_str p2
      exact ⟨_, _, _, _, rfl, rfl, hz, q _ H2 (s1.trans s2) d2 (.int _)⟩
    · cases h
  · cases h
/-! suites -/
structure SBD (K : PySem.W.Frag) (i : Nat) (te : Addr → TE) (d0 : D) : Prop where
  run : ∀ (a : Addr) (σ : L2.St) (H : Hp) (T : Ov) (Q : VK), σ[i]? = some (some (.ref a)) → Dis H T → (∀ v H', Same H H' → Dis H' T → Dp K H' v d0 → Q v (ov H' T)) → te a σ (ov H T) Q
structure SBA (K : PySem.W.Frag) (i : Nat) (ta : Addr → TA) (ds : List D) : Prop where
  run : ∀ (a : Addr) (σ : L2.St) (H : Hp) (T : Ov) (R : List V → Hp → Prop), σ[i]? = some (some (.ref a)) → Dis H T → (∀ vs H', Same H H' → Dis H' T → DpAll K H' vs ds → R vs (ov H' T)) → ta a σ (ov H T) R
variable {i : Nat}
theorem sbd_of {te : Addr → TE} {v0 : V} {d0 : D} (h : SB i te v0) (hd : ∀ H, Dp K H v0 d0) : SBD K i te d0 := ⟨fun a σ H T Q e dis q => h.run a σ _ Q e (q v0 H (Same.refl H) dis (hd H))⟩
theorem sba_nil : SBA K i (fun _ => tNil) [] := ⟨fun a σ H T R e dis q => q [] H (Same.refl H) dis .nil⟩
theorem sba_cons {te : Addr → TE} {ta : Addr → TA} {d : D} {ds : List D} (h1 : SBD K i te d) (h2 : SBA K i ta ds) : SBA K i (fun a => tCons (te a) (ta a)) (d :: ds) :=
  ⟨fun a σ H T R e dis q => h1.run a σ H T _ e dis fun v H1 s1 d1 p1 => h2.run a σ H1 T _ e d1 fun vs H2 s2 d2 p2 => q (v :: vs) H2 (s1.trans s2) d2 (.cons (dp_mono s2 p1) p2)⟩
theorem sbd_lst {ta : Addr → TA} {ds : List D} (h : SBA K i ta ds) (hz : ds.length ≤ cap) : SBD K i (fun a => tLst (ta a)) (.list ds) :=
  ⟨fun a σ H T Q e dis q => h.run a σ H T _ e dis fun vs H1 s1 d1 p1 => ⟨cap_line (by rw [dpa_len p1]; exact hz), fun p np => by
    obtain ⟨nT, nH⟩ := ov_free np
    rw [upd_ov nT]
    exact q _ _ (s1.trans (same_new nH)) (dis_upd d1 nT nH) (.lst (SqL.of upd_same) (dpa_mono (same_new nH) p1))⟩⟩
theorem sbd_if {tt : Addr → TT} {ta tb : Addr → TE} {b : Bool} {d e : D} (h : SBT i tt b) (h1 : SBD K i ta d) (h2 : SBD K i tb e) : SBD K i (fun a => tIf (tt a) (ta a) (tb a)) (if b = true then d else e) :=
  ⟨fun a σ H T Q z dis q => h.run a σ _ _ z (by
    cases b with
    | true => rw [if_pos rfl] at q ⊢; exact h1.run a σ H T Q z dis q
    | false => rw [if_neg Bool.false_ne_true] at q ⊢; exact h2.run a σ H T Q z dis q)⟩
variable {cl : Nat → Addr}
/-- what a suite does, by the class of what came -/
structure SU (K : PySem.W.Frag) (cl : Nat → Addr) (C : Addr) (i : Nat) (th : Addr → Value → Option Addr → TS) (f : Nat → Option D) : Prop where
  cls : ∀ c d, f c = some d → PySem.W.exmOne K (.ref (cl c)) (.ref C) = some true
  run : ∀ (c : Nat) (d0 : D), f c = some d0 → ∀ (a : Addr) (σ : L2.St) (H : Hp) (T : Ov) (E : Ends), σ[i]? = some (some (.ref a)) → Dis H T → (∀ v H', Same H H' → Dis H' T → Dp K H' v d0 → E.rt v (ov H' T)) → th a (.ref (cl c)) none E σ (ov H T)
def fOne (c0 : Nat) (d0 : D) : Nat → Option D := fun c => if c = c0 then some d0 else none
def fOr (f1 f2 : Nat → Option D) : Nat → Option D := fun c => (f1 c).or (f2 c)
theorem su_one {C : Addr} {c0 : Nat} {d0 : D} {te : Addr → TE} (hx : PySem.W.exmOne K (.ref (cl c0)) (.ref C) = some true) (h : SBD K i te d0) :
    SU K cl C i (fun a cls d D σ H => (cls = .ref (cl c0) ∧ d = none) ∧ tRet (te a) D σ H) (fOne c0 d0) := by
  refine ⟨fun c d e => ?_, fun c d e a σ H T E hs dis q => ?_⟩
  · by_cases h : c = c0
    · rw [h]; exact hx
    · have e : (if c = c0 then some d0 else none) = some d := e
      rw [if_neg h] at e
      cases e
  · by_cases hc : c = c0
    · have e : (if c = c0 then some d0 else none) = some d := e
      rw [if_pos hc] at e
      cases e
      subst hc
      exact ⟨⟨rfl, rfl⟩, h.run a σ H T _ hs dis q⟩
    · have e : (if c = c0 then some d0 else none) = some d := e
      rw [if_neg hc] at e
      cases e
theorem su_or {C : Addr} {t1 t2 : Addr → Value → Option Addr → TS} {f1 f2 : Nat → Option D} (h1 : SU K cl C i t1 f1) (h2 : SU K cl C i t2 f2) : SU K cl C i (fun a cls d D σ H => t1 a cls d D σ H ∨ t2 a cls d D σ H) (fOr f1 f2) := by
  refine ⟨fun c d e => ?_, fun c d e a σ H T E hs dis q => ?_⟩
  · have e : (f1 c).or (f2 c) = some d := e
    cases q : f1 c with
    | some x => exact h1.cls c x q
    | none => rw [q] at e; exact h2.cls c d e
  · have e : (f1 c).or (f2 c) = some d := e
    cases q' : f1 c with
    | some x =>
      rw [q'] at e
      cases e
      exact .inl (h1.run c d q' a σ H T E hs dis q)
    | none =>
      rw [q'] at e
      exact .inr (h2.run c d e a σ H T E hs dis q)
theorem pss_or {X : Cx} {b : List Stmt} {t u : TS} (h1 : PSs X b t) (h2 : PSs X b u) : PSs X b (fun D σ H => t D σ H ∨ u D σ H) :=
  ⟨fun pins s σ H D I q => q.elim (fun z => h1.run pins s σ H D I z) fun z => h2.run pins s σ H D I z⟩
/-- a raising def called with what a raising expression tells -/
def xThenX (mf : List D → Option Rs) (m : En → Option Rs) : En → Option Rs := fun ρ => (m ρ).bind fun r => match r with
  | .ok d => mf [d]
  | .ex c => some (.ex c)
theorem ex_thenX {te : WX → TE} {m : En → Option Rs} {mf : List D → Option Rs} (h : EX K cl te m) : EX K cl (fun W => tCallS (spX K cl 1 mf) (WE W) (tCons (te W) tNil)) (xThenX mf m) := by
  refine ⟨fun {H0 T0 σ ρ H T r} G hm W Q q => ?_⟩
  obtain ⟨r1, h1, hm⟩ := bind_some hm
  cases r1 with
  | ok d =>
    refine h.run G h1 W _ fun v H1 s1 d1 p1 => ?_
    show spX K cl 1 mf ([v] ++ []) (ov H1 T) Q _
    refine ⟨[d], r, H1, T, .cons p1 .nil, rfl, hm, rfl, d1, ?_⟩
    cases r with
    | ok e => exact fun w H3 s3 d3 p3 => q w H3 (s1.trans s3) d3 p3
    | ex c => exact fun H3 s3 d3 => q H3 (s1.trans s3) d3
  | ex c =>
    cases hm
    exact h.run G h1 W _ q
def xIfE (c : En → Option Bool) (a b : En → Option Rs) : En → Option Rs := fun ρ => (c ρ).bind fun x => if x = true then a ρ else b ρ
theorem ex_if {tc : TT} {mc : En → Option Bool} {t1 t2 : WX → TE} {m1 m2 : En → Option Rs} (hc : TTm K tc mc) (h1 : EX K cl t1 m1) (h2 : EX K cl t2 m2) : EX K cl (fun W => tIf tc (t1 W) (t2 W)) (xIfE mc m1 m2) := by
  refine ⟨fun {H0 T0 σ ρ H T r} G hm W Q q => ?_⟩
  obtain ⟨x, hx, h⟩ := bind_some hm
  refine hc.run G hx _ fun H1 s1 d1 => ?_
  have q1 : RsOk K cl H1 T Q (fun c d h => W c d σ h) r := by
    cases r with
    | ok d => exact fun v H2 s2 d2 p2 => q v H2 (s1.trans s2) d2 p2
    | ex c => exact fun H2 s2 d2 => q H2 (s1.trans s2) d2
  cases x with
  | true =>
    rw [if_pos rfl] at h ⊢
    exact h1.run (G.mono s1 d1) h W Q q1
  | false =>
    rw [if_neg Bool.false_ne_true] at h ⊢
    exact h2.run (G.mono s1 d1) h W Q q1
def sTryF (i : Nat) (f : Nat → Option D) (b : En → Option FlX) : En → Option Fl := fun ρ => (b ρ).bind fun x => match x with
  | .fl f => some f
  | .ex c ρ' => if i < ρ'.length then (f c).map .rt else none
/-- try: .. except c as e: return .., for several classes -/
theorem st_tryF {C : Addr} {f : Nat → Option D} {tb : WX → TS} {th : Addr → Value → Option Addr → TS} {mb : En → Option FlX} (hb : SX K cl tb mb) (hs : SU K cl C i th f) :
    TSm K (fun D σ H => tb (wAs K (.ref C) i (fun a cls d D σ H => th a cls d D σ H) (fun _ _ _ _ => False) D) D σ H) (sTryF i f mb) := by
  refine ⟨fun {H0 T0 σ ρ H T g} G h E q => ?_⟩
  obtain ⟨x, hx1, h⟩ := bind_some h
  refine hb.run G hx1 _ E ?_
  cases x with
  | fl f' => cases h; exact q
  | ex c ρ' =>
    have h : (if i < ρ'.length then (f c).map Fl.rt else none) = some g := h
    by_cases hi : i < ρ'.length
    · rw [if_pos hi] at h
      obtain ⟨d0, hd, e⟩ := map_some h
      subst e
      intro σ' H' T' G'
      refine ⟨true, hs.cls c d0 hd, fun _ a na => ?_, fun z => (nomatch z)⟩
      exact hs.run c d0 hd a _ _ _ _ (set_self (by rw [← G'.len]; exact hi)) G'.dis fun v H2 s2 d2 p2 => q v H2 T' (G'.ex.trans s2) d2 G'.ext p2
    · rw [if_neg hi] at h
      cases h
/-! a raising def that calls itself -/
variable {P : Program} {w : World} {mg : Str → Option Value} {base : Heap} {CX : CXT} {k c : Nat} {f : Addr} {fd : FuncData} {ps : List Str}
theorem fn_noneX : FnOk P w K mg base CX k f fd ps (spX K cl c fun _ => none) := by
  refine ⟨fun vs H Q E x => ?_, fun A outer s H args us vs Q E hr e0 hb r x => ?_⟩
  · obtain ⟨ds, d, H', T, _, _, z, _⟩ := x
    cases z
  · obtain ⟨ds, d, H', T, _, _, z, _⟩ := x
    cases z
theorem fn_recX {m : Nat → List D → Option Rs} (h0 : m 0 = fun _ => none) (hs : ∀ n, FnOk P w K mg base CX (k + n) f fd ps (spX K cl c (m n)) → FnOk P w K mg base CX (k + n + 1) f fd ps (spX K cl c (m (n + 1)))) : ∀ n, FnOk P w K mg base CX (k + n) f fd ps (spX K cl c (m n))
  | 0 => by
    rw [h0]
    exact fn_noneX
  | n + 1 => hs n (fn_recX h0 hs n)
end
end DD

set_option Elab.async false
set_option linter.all false
set_option maxRecDepth 100000
set_option maxHeartbeats 4000000
/-! enumerate of a list -/
namespace DD
variable [TabQ] [ExQ]
open PySem PySem.Spec PyProof.Rows L2
def nums : Nat → List D → List D
  | _, [] => []
  | n, x :: xs => .tuple [.int (n : Nat), x] :: nums (n + 1) xs
theorem nums_len : ∀ (n : Nat) (xs : List D), (nums n xs).length = xs.length
  | _, [] => rfl
  | n, x :: xs => by simp [nums, nums_len (n + 1) xs]
theorem nums_get : ∀ {n : Nat} {xs : List D} {i : Nat} {d : D}, (nums n xs)[i]? = some d → ∃ x, xs[i]? = some x ∧ d = .tuple [.int ((n + i : Nat) : Int), x]
  | _, [], _, _, h => by simp [nums] at h
  | n, x :: xs, 0, d, h => by simp [nums] at h; exact ⟨x, rfl, h.symm⟩
  | n, x :: xs, i + 1, d, h => by
    have h2 : (nums (n + 1) xs)[i]? = some d := by simpa [nums] using h
    obtain ⟨y, h3, h4⟩ := nums_get h2
    refine ⟨y, by simpa using h3, ?_⟩
    rw [h4]
    have : n + 1 + i = n + (i + 1) := by omega
    rw [this]
def mEnum (m : En → Option (List D)) : En → Option (List D) := fun ρ => (m ρ).bind fun ds => match ds with
  | [.list xs] => some (nums 0 xs)
  | _ => none
theorem it_enum {K : PySem.W.Frag} {ta : TA} {m : En → Option (List D)} (ha : TAm K ta m) : IT K (iEnum K ta) (mEnum m) := by
  refine ⟨fun {H0 T0 σ ρ H T ds} G h R q => ?_⟩
  obtain ⟨as, hx, h⟩ := bind_some h
  refine ha.run G hx _ fun vs H1 s1 d1 p1 => ?_
  split at h
  · rename_i xs _
    cases h
    obtain ⟨v, rfl, g⟩ := dpa_one p1
    obtain ⟨a, ys, rfl, hs, gy⟩ := dp_lst g
    have ly := dpa_len gy
    refine ⟨a, ys, rfl, sql_ov d1 hs, q _ H1 s1 d1 ⟨fun {H T} i sm dis hi => ?_, fun {H T} sm dis => ?_, fun {H T} i {x Hc d} sm dis hd y => ?_⟩⟩
    · rw [nums_len] at hi
      have i1 : i < ys.length := by rw [ly]; exact hi
      exact ⟨ys, ys[i], sql_ov dis (sm.seq hs), by simp [i1]⟩
    · exact ⟨ys, sql_ov dis (sm.seq hs), by rw [nums_len, ly]; exact Nat.le_refl _⟩
    · obtain ⟨p, xx, rfl, np, rfl, ex⟩ := y
      obtain ⟨dx, hdx, rfl⟩ := nums_get hd
      obtain ⟨wx, hwx, gwx⟩ := dpa_get gy hdx
      have := ex ys (sql_ov dis (sm.seq hs))
      rw [hwx] at this
      cases this
      obtain ⟨nT, nH⟩ := ov_free np
      have sn : Same H (upd H p (.tup [.int (i : Nat), xx])) := same_new nH
      refine ⟨_, upd_ov nT, sn, dis_upd dis nT nH, .tup (.inl (.of upd_same)) (.cons ?_ (.cons (dp_mono sn (dp_mono sm gwx)) .nil))⟩
      rw [Nat.zero_add]
      exact .int _
  · cases h
end DD

set_option Elab.async false
set_option linter.all false
set_option maxRecDepth 100000
set_option maxHeartbeats 4000000
/-! l.count(x); a caught exception as an argument and in suites of several statements; f(lambda: ..) -/
namespace DD
variable [TabQ]
open PySem PySem.Spec PyProof.Rows L2
section
variable [ExQ] {K : PySem.W.Frag}
def rCountD (K : PySem.W.Frag) : V → List V → Hp → VK → Prop := fun x xs H Q => ∃ (a : Addr) (y : V) (d : D) (ds : List D), x = V.ref a ∧ xs = [y] ∧ Dp K H (V.ref a) (.list ds) ∧ Dp K H y d ∧
  SeqAt.shaped (.list ds) = true ∧ SeqAt.shaped d = true ∧ Q (.int (ds.countP (fun z => PyData.eqv z d) : Nat)) H
theorem mt_countD {X : Cx} (hu : X.A.units + 65 < cLine) : MtR X "list.count" (rCountD X.K) := by
  intro pins s σ H x xs v us Q I rx rxs h
  obtain ⟨a, y, d, ds, rfl, rfl, hl, hy, sl, sd, q⟩ := h
  cases rx
  obtain ⟨uy, rfl, ry⟩ := rxs.one
  obtain ⟨bs, r1⟩ := Dp.reads I d y uy hy ry
  have hxs : PyData.canLayAll0 ds = true := SeqAt.canLay_of_shaped sl
  have room : X.A.units + 1 + min (PyData.depthAll ds) d.depth < cLine := room_in_shaped sd hu
  cases hl with
  | lst hs ha =>
    obtain ⟨its, rv, ⟨⟨cls, dd, data, sls⟩, n, ho, hc, hdn, hdt⟩, hlen⟩ := I.list hs
    simp only at hc hdt
    subst hc hdt
    obtain ⟨as, h4⟩ := Dp.readsAll I ds _ its ha rv
    have hmap : its.map (SeqAt.readOf s.heap) = ds := SeqAt.readsAll_map ds its as hxs h4
    refine call_meets PySem.F.slot_list_count ⟨_, ho, rfl⟩ PySem.F.entry_list_count (PySem.F.args_list_count_2 _ _)
      (SeqAt.list_countAt a its.toArray n dd sls uy (fun u => PyData.eqv (SeqAt.readOf s.heap u) d))
      ⟨ho, SeqAt.items_eqAt (vs := its.toArray) (show ReadsAll s.heap its.toArray.toList ds as from h4) r1 hxs (SeqAt.canLay_of_shaped sd) room, ?_⟩
    refine ⟨.int (ds.countP (fun z => PyData.eqv z d) : Nat), H, I.tok _, ⟨s.toks, ?_⟩, q⟩
    have e : its.toArray.toList.countP (fun u => PyData.eqv (SeqAt.readOf s.heap u) d) = ds.countP (fun z => PyData.eqv z d) := by
      rw [← hmap, List.countP_map]
      rfl
    rw [e]
def dCount (x y : D) : Option D := match x with
  | .list ds => if (SeqAt.shaped (.list ds) && SeqAt.shaped y) = true then some (.int (ds.countP (fun z => PyData.eqv z y) : Nat)) else none
  | _ => none
theorem ev_count {ta tb : TE} {ma mb : En → Option D} (ha : ET K ta ma) (hb : ET K tb mb) : ET K (tBM K "list" (rCountD K) ta (tCons tb tNil)) (mOp dCount ma mb) := by
  refine ⟨fun {H0 T0 σ ρ H T out} G h Q q => ?_⟩
  obtain ⟨x, hx, h⟩ := bind_some h
  obtain ⟨y, hy, h⟩ := bind_some h
  refine ha.run G hx _ fun v H1 s1 d1 p1 => ?_
  unfold dCount at h
  split at h
  · rename_i _ ds _
    split at h
    · rename_i hs
      obtain ⟨h1, h2⟩ := Bool.and_eq_true_iff.mp hs
      cases h
      obtain ⟨a, us, rfl, hq, gu⟩ := dp_lst p1
      refine ⟨.inl ⟨rfl, us, sql_ov d1 hq⟩, ?_⟩
      refine hb.run (G.mono s1 d1) hy _ fun v2 H2 s2 d2 p2 => ?_
      exact ⟨a, v2, y, ds, rfl, rfl, dp_ov d2 (dp_mono s2 (.lst hq gu)), dp_ov d2 p2, h1, h2, q _ H2 (s1.trans s2) d2 (.int _)⟩
    · cases h
  · cases h
end
/-! ### isinstance of the exception that was caught, in the suite and in a def that got it -/
section
variable {K : PySem.W.Frag}
theorem call_isA {X : Cx} {a D : Addr} {oe : Obj} (C : ExcC X.K D) (hz : Zc (.ref D) none oe) (hf : ∃ vs, oe.data = .fields vs) (hg : X.s_0.heap.get? a = some oe) (hn : X.H_0 a = none) (hfs : a ∉ X.fs) (hex : a ∉ X.ex) : CallR X (.builtin "isinstance") (rIsE X.K D a) := by
  intro pins s σ H xs us Q I r h
  obtain ⟨c, cv, b, rfl, hcv, e, q⟩ := h
  cases r with
  | cons rx rr =>
    cases rr with
    | cons rt rr =>
      cases rr
      cases rx
      have ec := hcv _ rt
      subst ec
      have hget := I.base.keep a oe hg hn hfs hex
      obtain ⟨vs, hv⟩ := hf
      have J : PySem.W.InstAt s.heap a oe D none := by
        obtain ⟨oc, od, oda, osl⟩ := oe
        obtain ⟨h1, h2⟩ := hz
        dsimp only at h1 h2 hv
        subst h1 h2 hv
        exact ⟨hget, rfl, rfl, trivial⟩
      exact PySem.W.kia_one (PySem.W.handS_kitx_exc C.hg C.hk C.hs C.hd C.ha C.hn C.ht C.hm) I.kIn J e (fun z => nomatch z) fun tk => ⟨.bl b, H, I.kept (t' := tk) fun _ _ z => z, rfl, q⟩
/-- isinstance(e, Y), by the number of e's class -/
def mIsX (i : Nat) (f : Nat → Bool) : En → Option D := fun ρ => match ρ[i]? with
  | some (some (.exc c)) => some (.bool (f c))
  | _ => none
theorem ev_isX {i c : Nat} {a D : Addr} {v : V} {cv : Value} {f : Nat → Bool} (hv : ∀ u, RelV v u → u = cv) (k : PySem.W.kitOne K (.ref D) cv = some (f c)) :
    letI : ExQ := ⟨a, c⟩
    ET K (tCB (rIsE K D a) (tCons (tVar i) (tCons (tC v) tNil))) (mIsX i f) := by
  letI : ExQ := ⟨a, c⟩
  refine ⟨fun {H0 T0 σ ρ H T d} G h Q q => ?_⟩
  unfold mIsX at h
  split at h
  · rename_i c' e
    cases h
    obtain ⟨h1, h2⟩ := G.exc i c' e
    have h2 : c' = c := h2
    rw [h2] at q
    exact ⟨.ref a, h1, v, cv, f c, rfl, hv, k, q _ H (Same.refl H) G.dis (.bl _)⟩
  · cases h
end
/-! ### a suite as a row of statements -/
def noExc : En → Bool := fun ρ => ρ.all fun x => match x with
  | some (.exc _) => false
  | _ => true
def sTryG (i : Nat) (ok : Nat → Bool) (b : En → Option FlX) (h : En → Option Fl) : En → Option Fl := fun ρ => (b ρ).bind fun x => match x with
  | .fl f => some f
  | .ex c ρ' => if (ok c && decide (i < ρ'.length) && noExc ρ') = true then (h (ρ'.set i (some (.exc c)))).bind fun f => match f with
    | .rt d => some (.rt d)
    | _ => none
    else none
section
variable {K : PySem.W.Frag} {cl : Nat → Addr}
/-- what a suite does, whatever class of those came -/
structure SG (K : PySem.W.Frag) (cl : Nat → Addr) (C : Addr) (th : Addr → Value → Option Addr → TS) (ok : Nat → Bool) (mh : En → Option Fl) : Prop where
  cls : ∀ c, ok c = true → PySem.W.exmOne K (.ref (cl c)) (.ref C) = some true
  run : ∀ c, ok c = true → ∀ a : Addr, letI : ExQ := ⟨a, c⟩; TSm K (fun E σ H => th a (.ref (cl c)) none E σ H) mh
def tSome (cl : Nat → Addr) (ok : Nat → Bool) (t : Addr → Nat → TS) : Addr → Value → Option Addr → TS := fun a cls d E σ H => ∃ c, ok c = true ∧ (cls = .ref (cl c) ∧ d = none) ∧ t a c E σ H
theorem pss_some {X : Cx} {ok : Nat → Bool} {oe : Obj} {a : Addr} {cls : Value} {d : Option Addr} {b : List Stmt} {t : Addr → Nat → TS} (hz : Zc cls d oe) (h : ∀ c, ok c = true → Zc (.ref (cl c)) none oe → PSs X b (t a c)) : PSs X b (tSome cl ok t a cls d) :=
  ⟨fun pins s σ H D I q => by
    obtain ⟨c, hc, ⟨rfl, rfl⟩, q⟩ := q
    exact (h c hc hz).run pins s σ H D I q⟩
theorem sg_mk {C : Addr} {ok : Nat → Bool} {t : Addr → Nat → TS} {mh : En → Option Fl} (h1 : ∀ c, ok c = true → PySem.W.exmOne K (.ref (cl c)) (.ref C) = some true) (h2 : ∀ c, ok c = true → ∀ a : Addr, letI : ExQ := ⟨a, c⟩; TSm K (t a c) mh) : SG K cl C (tSome cl ok t) ok mh := by
  refine ⟨h1, fun c hc a => ?_⟩
  letI : ExQ := ⟨a, c⟩
  exact ⟨fun {H0 T0 σ ρ H T f} G h E q => ⟨c, hc, ⟨rfl, rfl⟩, (h2 c hc a).run G h E q⟩⟩
theorem noExc_at {ρ : En} (h : noExc ρ = true) {i c : Nat} (e : ρ[i]? = some (some (.exc c))) : False := by
  unfold noExc at h
  have := List.all_eq_true.mp h _ (List.mem_of_getElem? e)
  cases this
theorem good_exc [e0 : ExQ] {H0 : Hp} {T0 : Ov} {σ : L2.St} {ρ : En} {H : Hp} {T : Ov} (G : Good K H0 T0 σ ρ H T) (n : noExc ρ = true) {i c : Nat} {a : Addr} : @Good _ ⟨a, c⟩ K H0 T0 (σ.set i (some (.ref a))) (ρ.set i (some (.exc c))) H T := by
  obtain ⟨glen, gval, gown, ginj, gdis, gext, gex, _⟩ := G
  refine @Good.mk _ ⟨a, c⟩ K H0 T0 _ _ H T (by rw [List.length_set, List.length_set]; exact glen) (fun j x h => ?_) (fun j x h => ?_) (fun j k ds es p h1 h2 h3 h4 => ?_) gdis gext gex (fun j c' h => ?_)
  · rcases get_set h with ⟨_, q, _⟩ | ⟨e, q⟩
    · cases q
    · obtain ⟨w, a, b⟩ := gval j x q
      exact ⟨w, by rw [List.getElem?_set_ne (Ne.symm e)]; exact a, b⟩
  · rcases get_set h with ⟨_, q, _⟩ | ⟨e, q⟩
    · cases q
    · obtain ⟨p, xs, a, b⟩ := gown j x q
      exact ⟨p, xs, by rw [List.getElem?_set_ne (Ne.symm e)]; exact a, b⟩
  · rcases get_set h1 with ⟨_, q, _⟩ | ⟨e1, q1⟩
    · cases q
    · rcases get_set h2 with ⟨_, q, _⟩ | ⟨e2, q2⟩
      · cases q
      · rw [List.getElem?_set_ne (Ne.symm e1)] at h3
        rw [List.getElem?_set_ne (Ne.symm e2)] at h4
        exact ginj j k ds es p q1 q2 h3 h4
  · rcases get_set h with ⟨e, q, l⟩ | ⟨e, q⟩
    · cases q
      subst e
      exact ⟨set_self (by rw [← glen]; exact l), rfl⟩
    · exact (noExc_at n q).elim
theorem st_tryG [e0 : ExQ] {i : Nat} {C : Addr} {ok : Nat → Bool} {tb : WX → TS} {th : Addr → Value → Option Addr → TS} {mb : En → Option FlX} {mh : En → Option Fl} (hb : SX K cl tb mb) (hs : SG K cl C th ok mh) :
    TSm K (fun D σ H => tb (wAs K (.ref C) i th (fun _ _ _ _ => False) D) D σ H) (sTryG i ok mb mh) := by
  refine ⟨fun {H0 T0 σ ρ H T g} G h E q => ?_⟩
  obtain ⟨x, hx1, h⟩ := bind_some h
  refine hb.run G hx1 _ E ?_
  cases x with
  | fl f' => cases h; exact q
  | ex c ρ' =>
    have h : (if (ok c && decide (i < ρ'.length) && noExc ρ') = true then (mh (ρ'.set i (some (.exc c)))).bind fun f => match f with
      | .rt d => some (.rt d)
      | _ => none
      else none) = some g := h
    split at h
    · rename_i hi
      obtain ⟨hi, hn⟩ := Bool.and_eq_true_iff.mp hi
      obtain ⟨hc, hi⟩ := Bool.and_eq_true_iff.mp hi
      obtain ⟨f, hf, h⟩ := bind_some h
      cases f with
      | rt d =>
        cases h
        intro σ' H' T' G'
        refine ⟨true, hs.cls c hc, fun _ a na => ?_, fun z => (nomatch z)⟩
        exact @TSm.run _ ⟨a, c⟩ K _ _ (hs.run c hc a) _ _ _ _ _ _ _ (good_exc G' hn) hf _ fun v H2 T2 s2 d2 e2 p2 => q v H2 T2 s2 d2 e2 p2
      | nx ρ => cases h
      | bk ρ => cases h
      | ct ρ => cases h
    · cases h
end
end DD

set_option Elab.async false
set_option linter.all false
set_option maxRecDepth 100000
set_option maxHeartbeats 4000000
/-! a def called in a suite with the exception; a def that calls what it got, within a try -/
namespace DD
variable [TabQ]
open PySem PySem.Spec PyProof.Rows L2
theorem rmH_mark {k : Nat} {A : Around} {v : Option Value} (r : Room k A) : L2H.RoomH k (A.mark v) := ⟨r.dp, r.un⟩
theorem unH {k : Nat} {A : Around} (r : L2H.RoomH k A) : A.units + 64 < cLine := by have := r.un; omega
theorem huH {k : Nat} {A : Around} (r : L2H.RoomH k A) : A.units + 65 < cLine := by have := r.un; omega
theorem call_isP {X : Cx} {a D : Addr} {oe : Obj} (C : ExcC X.K D) (hz : Zc (.ref D) none oe) (hf : ∃ vs, oe.data = .fields vs) (hp : (a, oe) ∈ X.pn) : CallR X (.builtin "isinstance") (rIsE X.K D a) := by
  intro pins s σ H xs us Q I r h
  obtain ⟨c, cv, b, rfl, hcv, e, q⟩ := h
  cases r with
  | cons rx rr =>
    cases rr with
    | cons rt rr =>
      cases rr
      cases rx
      have ec := hcv _ rt
      subst ec
      have hget := (I.pin (a, oe) (List.mem_append_left _ hp)).1
      obtain ⟨vs, hv⟩ := hf
      have J : PySem.W.InstAt s.heap a oe D none := by
        obtain ⟨oc, od, oda, osl⟩ := oe
        obtain ⟨h1, h2⟩ := hz
        dsimp only at h1 h2 hv
        subst h1 h2 hv
        exact ⟨hget, rfl, rfl, trivial⟩
      exact PySem.W.kia_one (PySem.W.handS_kitx_exc C.hg C.hk C.hs C.hd C.ha C.hn C.ht C.hm) I.kIn J e (fun z => nomatch z) fun tk => ⟨.bl b, H, I.kept (t' := tk) fun _ _ z => z, rfl, q⟩
/-- what a def tells that got the exception -/
def excStart (N i c : Nat) : En := (List.replicate N none).set i (some (.exc c))
def mExc (N i : Nat) (md : En → Option Fl) (c : Nat) : Option D := (md (excStart N i c)).bind fun f => match f with
  | .rt d => some d
  | .nx _ => some .none
  | _ => none
def tExc (K : PySem.W.Frag) (i : Nat) (a : Addr) (m : Option D) : TE := fun σ H Q => σ[i]? = some (some (.ref a)) ∧ ∃ d H0 T, H = ov H0 T ∧ Dis H0 T ∧ m = some d ∧ ∀ v H', Same H0 H' → Dis H' T → Dp K H' v d → Q v (ov H' T)
def mExcV (i : Nat) (f : Nat → Option D) : En → Option D := fun ρ => match ρ[i]? with
  | some (some (.exc c)) => f c
  | _ => none
theorem ev_exc {K : PySem.W.Frag} {i c : Nat} {a : Addr} {f : Nat → Option D} : letI : ExQ := ⟨a, c⟩; ET K (tExc K i a (f c)) (mExcV i f) := by
  letI : ExQ := ⟨a, c⟩
  refine ⟨fun {H0 T0 σ ρ H T d} G h Q q => ?_⟩
  unfold mExcV at h
  split at h
  · rename_i c' e
    obtain ⟨h1, h2⟩ := G.exc i c' e
    have h2 : c' = c := h2
    rw [h2] at h
    exact ⟨h1, d, H, T, rfl, G.dis, h, q⟩
  · cases h
theorem good_none [ExQ] {K : PySem.W.Frag} {σ : L2.St} {H : Hp} {T : Ov} {n : Nat} (hl : n = σ.length) (d : Dis H T) : Good K H T σ (List.replicate n none) H T := by
  have no : ∀ (i : Nat) (s : Sl), (List.replicate n (none : Option Sl))[i]? = some (some s) → False := fun i s e => by
    rw [List.getElem?_replicate] at e
    split at e <;> cases e
  exact ⟨by rw [List.length_replicate]; exact hl, fun i d e => (no i _ e).elim, fun i ds e => (no i _ e).elim, fun i j ds es p e _ _ _ => (no i _ e).elim, d, fun a xs e => e, Same.refl H, fun i c e => (no i _ e).elim⟩
theorem noExc_none (n : Nat) : noExc (List.replicate n none) = true := by
  unfold noExc
  rw [List.all_eq_true]
  intro x hx
  rw [(List.mem_replicate.mp hx).2]
/-- f(e) in a suite, e the exception -/
theorem pe_exc [ExQ] {X : Cx} {x pa e : Str} {st : Stmt} {f : Addr} {fd : FuncData} {N : List Str} {k i c : Nat} {a : Addr} {oe : Obj} {md : En → Option Fl} {p1 q pos : Pos} (F : Fun X.K x x st f fd) (S : FnScope N [pa] (defScope st)) (hb : Binds X.K fd [pa] []) (hN : 0 < N.length)
    (hp : (a, oe) ∈ X.pn) (hr : L2H.RoomH (k + 1) X.A) (hg : Gl X x) (hm : X.mg x = some (.ref f)) (he : PE X (.Name e p1) (tVar i))
    (hbody : ∀ (cdv : Value) (A : Around) (outer : List Env) (s : Shared) (H : Hp), L2H.RoomH k (A.deeper (envOfC x (defScope st) s.heap.objs.size f cdv)) →
      ∃ t, PSs (L2H.cxH CX0 X.prog X.w X.K X.mg X.base N x (defScope st) f cdv A outer s H E0 (a, oe)) (defBody st) t ∧ @TSm _ ⟨a, c⟩ X.K t md)
    (hdb : (x == ("__debug__" : Str)) = false := by decide) (hse : starEach [.Name e p1] X.env = (false, eval (.Name e p1) X.env) :: starEach [] X.env := by rfl) (hpl : (backTo pos (starEach [] X.env)).any (·.1) = false := by rfl) :
    PE X (.Call (.Name x q) [.Name e p1] [] pos) (tExc X.K i a (mExc N.length 0 md c)) := by
  obtain ⟨oc, od, kV, doc, pm, an, cdv, ct, osl, rfl, lk, hcd⟩ := F.ex
  refine ⟨fun pins s σ H Q I h => ?_⟩
  obtain ⟨hs, d, H0, T, rfl, dis, hd, q⟩ := h
  refine wpAny_Call_Name_kw (ld_glob I hg hm ?_ hdb)
  have ha : PA X [.Name e p1] (tCons (tVar i) tNil) := pa_cons he pa_nil
  refine PySem.W.callWith_K (h₀ := X.base) I.ok.mod.kin F.kp (thn (ha.run pos pins s σ _ (fun vs H1 => vs = [V.ref a] ∧ ov H0 T = H1) I ⟨.ref a, hs, rfl, rfl⟩) fun us s1 hh => ?_) hse hpl
  obtain ⟨vs, H1, I1, r, ev, eH⟩ := hh
  subst ev
  rw [← eH] at I1
  refine ⟨I1.kIn, ?_⟩
  have P1 := I1.pin (a, oe) (List.mem_append_left _ hp)
  have hpin : L2H.PinOk X.stack (ov H0 T) s1 (a, oe) := ⟨P1.1, P1.2.1, fun hm => (List.mem_cons.mp (I1.stkSub a hm)).elim P1.2.2.1 P1.2.2.2.1, P1.2.2.2.2⟩
  have hlen : us.length = 1 := by rw [← r.length]; rfl
  have e0 := I1.env0
  have b := hb s1 us I1.kIn (by rw [List.append_nil]; exact hlen)
  rw [List.append_nil] at b
  have KX : X.K.In s1.heap := I1.kIn
  have hkind : ∀ y ∈ [pa].zip us, (defScope st).names.lookup y.1 = some .local ∨ ((defScope st).names.lookup y.1 = some .cell ∧ ((cellsFrom (s1.heap.objs.size + 1) (defScope st).names []).lookup y.1).isSome = true) := fun y hy => by
    obtain ⟨n, v⟩ := y
    rcases S.par n (List.of_mem_zip hy).1 with z | z
    · exact .inl z
    · exact .inr ⟨z, PySem.W.cellsFrom_some _ _ _ (.inl z)⟩
  have rc : codeAny (model X.prog X.w) X.A (.call (.ref f) ⟨us, []⟩) (CR CX0 X.stack X.prog X.w (ov H0 T) s1 Q E0) s1 := by
    refine codeAny_call_function hr.depth (KX _ _ lk) rfl S.co S.gen rfl (PySem.W.codeRec_of KX hcd) (b _ _ _ _ ?_)
    refine wpAny_newFunctionEnv_cells S.kind hkind fun env he s2 y => ?_
    subst he
    refine ⟨I1.nolimit.keeps y.toInCall.keep, codeAny_func ?_⟩
    obtain ⟨t, ht, tm⟩ := hbody cdv X.A X.stack s1 (ov H0 T) (hr.deeper _)
    have J : Inv (L2H.cxH CX0 X.prog X.w X.K X.mg X.base N x (defScope st) f cdv X.A X.stack s1 (ov H0 T) E0 (a, oe)) [] (L2.start N [V.ref a]) (ov H0 T) s2 := L2H.inv_startH S hpin e0 rfl r y
    have fin : ∀ {σ' : L2.St} {H' : Hp} {s' : Shared} {v : V} {u : Value}, Inv (L2H.cxH CX0 X.prog X.w X.K X.mg X.base N x (defScope st) f cdv X.A X.stack s1 (ov H0 T) E0 (a, oe)) [] σ' H' s' → RelV v u → Q v H' → CE X.stack X.prog X.w (ov H0 T) s1 Q u s' :=
      fun {σ' H' s' v u} J rv q => ⟨v, H', J.os, J.bare, J.base, J.hok, rv, q⟩
    have key : t { nx := fun _ H' => Q .non H', rt := Q } (L2.start N [V.ref a]) (ov H0 T) := by
      obtain ⟨fl, hf, hd⟩ := bind_some hd
      have st0 : (L2.start N [V.ref a]) = ((none :: List.replicate (N.length - 1) none : L2.St)).set 0 (some (.ref a)) := rfl
      have sz : N.length = (none :: List.replicate (N.length - 1) none : L2.St).length := by rw [List.length_cons, List.length_replicate]; omega
      have G := @good_exc _ X.K ⟨0, 0⟩ _ _ _ _ _ _ (@good_none _ ⟨0, 0⟩ X.K _ _ _ _ sz dis) (noExc_none _) 0 c a
      rw [← st0] at G
      refine @TSm.run _ ⟨a, c⟩ X.K _ _ tm _ _ _ _ _ _ _ G hf _ ?_
      cases fl with
      | rt d' =>
        cases hd
        intro v H' T' s1 d1 e1 p1
        obtain ⟨H2, e2, s2, d2, s3⟩ := back dis s1 d1 e1
        show Q v (ov H' T')
        rw [e2]
        exact q v H2 s2 d2 (dp_mono s3 p1)
      | nx ρ =>
        cases hd
        intro σ' H' T' G'
        obtain ⟨H2, e2, s2, d2, s3⟩ := back dis (@Good.ex _ ⟨a, c⟩ _ _ _ _ _ _ _ G') (@Good.dis _ ⟨a, c⟩ _ _ _ _ _ _ _ G') (@Good.ext _ ⟨a, c⟩ _ _ _ _ _ _ _ G')
        show Q .non (ov H' T')
        rw [e2]
        exact q _ H2 s2 d2 .non
      | bk ρ => cases hd
      | ct ρ => cases hd
    refine wpAny_mono (ht.run [] s2 _ _ _ J key) (fun fl s' hs => ?_) fun e s' hs => hs
    cases fl with
    | ret u =>
      obtain ⟨v, σ', H', J, rv, q⟩ := hs
      exact fin J rv q
    | next =>
      obtain ⟨σ', H', J, q⟩ := hs
      exact fin (v := V.non) (u := Value.none) J rfl q
    | brk =>
      obtain ⟨_, _, _, q⟩ := hs
      exact False.elim q
    | cont =>
      obtain ⟨_, _, _, q⟩ := hs
      exact False.elim q
  refine wpAny_call (codeAny_mono rc fun r s2 hq => ?_)
  cases r with
  | error e => exact (show False from hq).elim
  | ok fl =>
    cases fl with
    | ret u => exact I1.after hq
    | next => exact False.elim hq
    | brk => exact False.elim hq
    | cont => exact False.elim hq
end DD

set_option Elab.async false
set_option linter.all false
set_option maxRecDepth 100000
set_option maxHeartbeats 4000000
/-! f(lambda: ..), f a def that calls what it got within a try; a def that makes lambdas -/
namespace DD
variable [TabQ]
open PySem PySem.Spec PyProof.Rows L2
theorem takes_len {X : Cx} {W : WX} (tk : Takes X W) : Takes X (fun cls d σ H => σ.length = X.N.length → W cls d σ H) := fun u s' z => by
  obtain ⟨a, B, sI, pins, σ, H, cls, d, e, I, nb, up, sky, na, os, ag, w⟩ := z
  exact tk u s' ⟨a, B, sI, pins, σ, H, cls, d, e, I, nb, up, sky, na, os, ag, w I.len⟩
/-- what the catching def makes of the lambda's reading; res: what its suite tells, by the number of the class -/
def TTold (K : PySem.W.Frag) (cl : Nat → Addr) (ok : Nat → Bool) (res : Nat → Option D) : (XK → Hp → VK → Prop) → Hp → VK → Prop := fun tl H Q =>
  tl (fun cls d H' => ∃ c, cls = .ref (cl c) ∧ d = none ∧ ok c = true ∧ ∃ H0 T d0, H' = ov H0 T ∧ Dis H0 T ∧ res c = some d0 ∧ ∀ v H2, Same H0 H2 → Dis H2 T → Dp K H2 v d0 → Q v (ov H2 T)) H Q
def okA : Nat → Bool := fun _ => true
def rSuite (n i : Nat) (mh : En → Option Fl) (c : Nat) : Option D := (mh (excStart n i c)).bind fun f => match f with
  | .rt d => some d
  | _ => none
def mTold (ok : Nat → Bool) (res : Nat → Option D) (me : En → Option Rs) : En → Option D := fun ρ => (me ρ).bind fun r => match r with
  | .ok d => some d
  | .ex c => if ok c = true then res c else none
section
variable [ExQ] {K : PySem.W.Frag} {cl : Nat → Addr}
theorem ev_lam {ok : Nat → Bool} {res : Nat → Option D} {te : WX → TE} {me : En → Option Rs} (h : EX K cl te me) : ET K (LamX.tLam TabQ.tabs (TTold K cl ok res) (fun E => te (fun cls d _ H => E cls d H))) (mTold ok res me) := by
  refine ⟨fun {H0 T0 σ ρ H T d} G hm Q q => ⟨G.dis.tab.ext (raw_ov G.dis), fun H1 eN t1 => ?_⟩⟩
  obtain ⟨r, hr, hm⟩ := bind_some hm
  obtain ⟨H', e1, d1, k⟩ := under (T0 := T) (X := H1) t1 fun a xs h => eN a _ (ov_own h) fun _ => HO.noConfusion
  have s1 : Same H H' := fun a o h n => k a o (eN a o (raw_ov G.dis a o h) n) (by
    cases z : T a with
    | none => rfl
    | some xs => rw [G.dis a xs z] at h; cases h)
  subst e1
  refine h.run (G.mono s1 d1) hr _ Q ?_
  cases r with
  | ok d' =>
    cases hm
    exact fun v H2 s2 d2 p2 => q v H2 (s1.trans s2) d2 p2
  | ex c =>
    have hm : (if ok c = true then res c else none) = some d := hm
    split at hm
    · rename_i hc
      exact fun H2 s2 d2 => ⟨c, rfl, rfl, hc, H2, T, d, rfl, d2, hm, fun v H3 s3 d3 p3 => q v H3 ((s1.trans s2).trans s3) d3 p3⟩
    · cases hm
/-- the catching def -/
theorem gives_told {X : Cx} {Ng : List Str} {x a e ne q : Str} {sg : Scope} {g CS : Addr} {cdg : Value} {ok : Nat → Bool} {th : Addr → Value → Option Addr → TS} {mh : En → Option Fl} {i k : Nat} {b₀ : Stmt} {suite bg : List Stmt} {p1 p2 p3 p4 p5 p6 : Pos}
    (hbg : bg = [.Try [.Return (some (.Call (.Name a p1) [] [] p2)) p3] [.ExceptHandler (some (.Name e p4)) (some ne) (b₀ :: suite) p5] [] [] p6])
    (hge : sg.names.lookup e = some .globalImplicit) (hme : X.mg e = some (.ref CS)) (hde : (e == ("__debug__" : Str)) = false) (hN : Ng.Nodup) (hi : Ng[i]? = some ne) (hl : sg.names.lookup ne = some .local) (hrX : Room (k + 1) X.A)
    (h0 : ∀ f : Addr, (L2.start Ng [V.ref f])[0]? = some (some (V.ref f)))
    (hsu : ∀ (s : Shared) (H : Hp) (o : Addr) (oe : Obj) (cls : Value) (d : Option Addr) (pn : List (Addr × Obj)), Room k (X.A.deeper (envOfC x sg s.heap.objs.size g cdg)) → Zc cls d oe → (∃ vs, oe.data = .fields vs) →
      PSs ((cxOf C8.CX0 X.prog X.w X.K X.mg X.base Ng x sg g cdg X.A X.stack s H C8.E0).nox.suite o ((o, oe) :: pn)) (b₀ :: suite) (th o cls d))
    (hs : SG X.K cl CS th ok mh) : LamX.GivesTo X Ng x sg g cdg bg a q (TTold X.K cl ok (rSuite Ng.length i mh)) := by
  intro f c' s H Q tl act hc h
  subst hbg
  have hgl : Gl (cxOf C8.CX0 X.prog X.w X.K X.mg X.base Ng x sg g cdg X.A X.stack s H C8.E0).nox e := hge
  refine ⟨_, pss_one (ps_try_as (X := (cxOf C8.CX0 X.prog X.w X.K X.mg X.base Ng x sg g cdg X.A X.stack s H C8.E0).nox) (c := .ref CS) (i := i) (Wout := fun _ _ _ _ => False) (ts := th)
      (tb := fun W D σ H => ∃ Ech : XK, (∀ cls d σ' H', σ'.length = Ng.length → Ech cls d H' → W cls d σ' H') ∧ σ[0]? = some (some (.ref f)) ∧ H c' = some (LamX.CodeO c' q) ∧ tl Ech H D.rt)
      rfl rfl hN hi hl ⟨hgl, hde, .inl hme⟩ takes0 (fun W pn xe tk _ => ?_) (fun o oe cls d pn hz hf => hsu s H o oe cls d pn (hrX.deeper _) hz hf)), ?_⟩
  · refine ⟨fun pins s' σ H' D I h' => ?_⟩
    obtain ⟨Ech, hW, h1, h2, h3⟩ := h'
    have hp := act (fun cls d σ H => σ.length = Ng.length → W cls d σ H) pn xe Ech p1 p2 (takes_len tk) fun cls d σ' H' e hl => hW cls d σ' H' hl e
    exact (pss_one (ps_ret (pos := p3) hp)).run pins s' σ H' D I ⟨h1, h2, h3⟩
  · refine ⟨_, fun cls d σ' H' hl' z => ?_, h0 f, hc, h⟩
    obtain ⟨c, rfl, rfl, hok, H0, T, d0, rfl, dis, hres, q⟩ := z
    refine ⟨true, hs.cls c hok, fun _ o na => ?_, fun z => (nomatch z)⟩
    obtain ⟨fl, hf, hd⟩ := bind_some hres
    cases fl with
    | rt d' =>
      cases hd
      have G := good_exc (good_none (K := X.K) (σ := σ') hl'.symm dis) (noExc_none _) (i := i) (c := c) (a := o)
      refine @TSm.run _ ⟨o, c⟩ X.K _ _ (hs.run c hok o) _ _ _ _ _ _ _ G hf _ ?_
      intro v H2 T2 s1 d1 e1 p1
      obtain ⟨H3, e2, s2, d2, s3⟩ := back dis s1 d1 e1
      show Q v (ov H2 T2)
      rw [e2]
      exact q v H3 s2 d2 (dp_mono s3 p1)
    | nx ρ => cases hd
    | bk ρ => cases hd
    | ct ρ => cases hd
/-- x(lambda: body) -/
theorem pe_lam {X : Cx} {x a : Str} {g c P : Addr} {k : Nat} {st : Stmt} {fd : FuncData} {Ng : List Str} {params : Arguments} {body : Expr} {scope : Scope} {t : XK → TE} {TT : (XK → Hp → VK → Prop) → Hp → VK → Prop} {p lpos pos : Pos}
    (F : Fun X.K x x st g fd) (hg : Gl X x) (hm : X.mg x = some (.ref g)) (hb : Binds X.K fd [a] []) (Sg : FnScope Ng [a] (defScope st)) (hNg : Ng[0]? = some a) (hva : Vis (defScope st) a)
    (hG : ∀ cdv, LamX.GivesTo X Ng x (defScope st) g cdv (defBody st) a (X.env.qual ++ "<lambda>") TT) (TB : LamX.TabB X.base X.mg c P) (hcode : X.env.code = .ref c) (hmT : (P, X.env.qual ++ "<lambda>") ∈ TabQ.tabs)
    (hu : ∀ p ∈ TabQ.tabs, p.1 = P → p.2 = X.env.qual ++ "<lambda>") (hr : Room (k + 2) X.A) (L : LamX.LamS X.env.scope scope) (hdef : defaultsOf params X.env = ([], []))
    (hbind : ∀ (q : Str) (cl : List (Str × Addr)) (pm cv ctv : Value), bindArgs (PySem.W.kla_fn "<lambda>" q params body scope cl pm cv ctv) ⟨[], []⟩ = pure [])
    (hbody : ∀ (A : Around) (outer : List Env) (s : Shared) (H : Hp) (E : XK) (f c' : Addr), Room k (A.deeper (LamX.lamEnv X scope s.heap.objs.size f c')) → PE (LamX.lamCx X A outer s H E scope f c') body (t E))
    (hdb : (x == ("__debug__" : Str)) = false := by decide) (hd : (a == ("__debug__" : Str)) = false := by decide) (hcd : (a == ("__classdict__" : Str)) = false := by decide) :
    PE X (.Call (.Name x p) [.Lambda params body scope lpos] [] pos) (LamX.tLam TabQ.tabs TT t) := by
  obtain ⟨oc, od, kV, doc, pm, an, cdv, ct, osl, rfl, lk, hcg⟩ := F.ex
  exact LamX.pe_lamcall hg hm F.kp lk hcg hb Sg hNg hva (hG cdv) TB hcode hmT hu hr L hdef hbind hbody hdb hd hcd
/-- a def whose code object is known -/
theorem def_okT {P : Program} {w : World} {mg : Str → Option Value} {base : Heap} {x qual : Str} {st : Stmt} {f co : Addr} {fd : FuncData} {N ps : List Str} {k : Nat} {mb : En → Option Fl} (F : Fun K x qual st f fd) (hco : fd.code = .ref co) (S : FnScope N ps (defScope st))
    (hbody : ∀ (A : Around) (outer : List Env) (s : Shared) (H : Hp) (E : XK), Room k (A.deeper (envOfC qual (defScope st) s.heap.objs.size f (.ref co))) →
      ∃ t, PSs (cxOf CX0 P w K mg base N qual (defScope st) f (.ref co) A outer s H E).nox (defBody st) t ∧ TSm K t mb) : FnOk P w K mg base CX0 (k + 1) f fd ps (spM K ps.length (mDef N.length mb)) := by
  obtain ⟨oc, od, kV, doc, pm, an, cdv, ct, osl, rfl, lk, hcd⟩ := F.ex
  have ec : cdv = .ref co := hco
  subst ec
  refine fn_of lk hcd S (fun vs H Q E h => ?_) (fun A outer s Hx vs Q E hr h => ?_)
  · obtain ⟨ds, d, H, T, g, hn, _⟩ := h
    rw [dpa_len g, hn]
  · obtain ⟨ds, d, H, T, g, hn, hm, rfl, dis, q⟩ := h
    obtain ⟨t, p, m⟩ := hbody A outer s (ov H T) E hr
    refine ⟨t, p.nox, ?_⟩
    obtain ⟨fl, hf, hm⟩ := bind_some hm
    refine m.run (good_start g dis) hf _ ?_
    cases fl with
    | rt d' =>
      cases hm
      intro v H' T' s1 d1 e1 p1
      obtain ⟨H2, e2, s2, d2, s3⟩ := back dis s1 d1 e1
      show Q v (ov H' T')
      rw [e2]
      exact q v H2 s2 d2 (dp_mono s3 p1)
    | nx ρ =>
      cases hm
      intro σ' H' T' G'
      obtain ⟨H2, e2, s2, d2, s3⟩ := back dis G'.ex G'.dis G'.ext
      show Q .non (ov H' T')
      rw [e2]
      exact q _ H2 s2 d2 .non
    | bk ρ => cases hm
    | ct ρ => cases hm
end
theorem kit_ty {K : PySem.W.Frag} {D : Addr} {T : String} (hm : PySem.W.kitMeta T = true) (h : PySem.W.subIn K (.ref D) (.type T) = some true) : PySem.W.kitOne K (.ref D) (.type T) = some true := by
  unfold PySem.W.kitOne
  split
  · rfl
  · show (if PySem.W.kitMeta T = true then PySem.W.subIn K (.ref D) (.type T) else none) = some true
    rw [if_pos hm]
    exact h
end DD
namespace DD
open PySem PySem.Spec PyProof.Rows L2
theorem head_mk {K : PySem.W.Frag} {co P : Addr} {dd : Option Addr} {vs : Array Value} {sl : Array (Option Value)} (kl : K.lookup co = some ⟨.type "code", dd, .fields vs, sl⟩) (k11 : vs[11]? = some (.ref P)) (h18 : ∃ x t, vs.getD 18 .none = .str x t) (h7 : ∃ i t, vs.getD 7 .none = .int i t)
    (h9 : ∃ b, vs.getD 9 .none = .bool b) (h10 : ∃ i t, vs.getD 10 .none = .int i t) (hne : co ≠ P) : PySem.W.codeHdIn K co P = true := by
  obtain ⟨x, t, e18⟩ := h18
  obtain ⟨i, u, e7⟩ := h7
  obtain ⟨b, e9⟩ := h9
  obtain ⟨j, v, e10⟩ := h10
  unfold PySem.W.codeHdIn
  rw [kl]
  simp only [k11, e18, e7, e9, e10]
  simpa using hne
/-- the end of a law that makes lambdas in its own def -/
theorem law_at {l : PySem.W.OpenLaw} {w : World} {K : PySem.W.Frag} {k : Nat} {x q : Str} {mg : Str → Option Value} {fa co P : Addr} {h : Heap} {o : Obj} {fd : FuncData} {e : Value} {dd : Option Addr} {vs : Array Value} {sl : Array (Option Value)} {m : List D → Option D}
    (X : K.In h) (own : LamX.OwnTab K fa h) (lo : K.lookup fa = some o) (ho : o.data = .func fd) (hc : fd.code = .ref co) (kl : K.lookup co = some ⟨e, dd, .fields vs, sl⟩) (k11 : vs[11]? = some (.ref P)) (khd : PySem.W.codeHdIn K co P = true) (kn : K.lookup P = none)
    (hb : ∀ (s : Shared) (u : Value), BindsTo s fd ⟨[u], []⟩ [(x, u)]) (ht : ∀ ns : List Int, ns.length ≤ 63 → m [.list (ns.map .int)] = some (.bool true))
    (F : ∀ base : Heap, K.In base → base.Ns mainGlobals mg → LamX.TabB base mg co P → FnOk l.prog w K mg base CX0 k fa fd [x] (@spM ⟨[(P, q)]⟩ K 1 m)) : LamX.LawAtS l w K CX0 k 63 x mg fa h := by
  have one : ∀ {p : Addr × Addr}, p ∈ [(co, P)] → p = (co, P) := fun hp => by simpa using hp
  refine ⟨fd, [(co, P)], @spM ⟨[(P, q)]⟩ K 1 m, fun p hp => ?_, fun p hp => ?_, fun p hp => ?_, hb, fun H a ns hl _ hT hS => ?_, fun base h1 h2 h3 => F base h1 h2 (h3 (co, P) List.mem_cons_self)⟩
  · rw [one hp]
    exact own co P o fd e dd vs sl lo ho hc kl k11
  · rw [one hp]
    exact kn
  · rw [one hp]
    exact PySem.W.codeHd_of_K X khd
  · letI : TabQ := ⟨[(P, q)]⟩
    letI : ExQ := ⟨0, 0⟩
    have eH : H = ov H (fun _ => none) := by
      funext b
      rfl
    refine ⟨[.list (ns.map .int)], .bool true, H, fun _ => none, .cons (.lst hS (dpa_ints ns)) .nil, rfl, ht ns hl, eH, ⟨fun _ _ z => (nomatch z), fun p hp => ?_⟩, fun v H' _ _ g => dp_bool g⟩
    have ep : p = (P, q) := by simpa using (show p ∈ [(P, q)] from hp)
    rw [ep]
    exact .nil (hT (co, P) List.mem_cons_self)
end DD

set_option Elab.async false
set_option linter.all false
set_option maxRecDepth 100000
set_option maxHeartbeats 4000000
/-! defs with defaults; a dict of defs, and the def that was picked out of it; a tuple whose first part may raise -/
namespace DD
variable [TabQ] [ExQ]
open PySem PySem.Spec PyProof.Rows L2
section
variable {K : PySem.W.Frag} {cl : Nat → Addr}
/-! ### defaults -/
theorem def_okXD {P : Program} {w : World} {mg : Str → Option Value} {base : Heap} {x qual : Str} {st : Stmt} {dvs : List V} {kws : List (Str × V)} {f : Addr} {fd : FuncData} {N ps : List Str} {k : Nat} {mb : En → Option FlX} (F : FunD K x qual (defArgs st) (defBody st) (defScope st) dvs kws f fd) (S : FnScope N ps (defScope st))
    (hbody : ∀ (cdv : Value) (A : Around) (outer : List Env) (s : Shared) (H : Hp) (E : XK), Room k (A.deeper (envOfC qual (defScope st) s.heap.objs.size f cdv)) →
      ∃ t : WX → TS, PSs (cxOf (L2.CX P w) P w K mg base N qual (defScope st) f cdv A outer s H E) (defBody st) (t fun c d _ h => E c d h) ∧ SX K cl t mb) : FnOk P w K mg base (L2.CX P w) (k + 1) f fd ps (spX K cl ps.length (xDef N.length mb)) := by
  refine F.ok S (fun vs H Q E h => ?_) (fun cdv A outer s Hx vs Q E hr h => ?_)
  · obtain ⟨ds, r, H, T, g, hn, _⟩ := h
    rw [dpa_len g, hn]
  · obtain ⟨ds, r, H, T, g, hn, hm, rfl, dis, q⟩ := h
    obtain ⟨t, p, m⟩ := hbody cdv A outer s (ov H T) E hr
    refine ⟨_, p, ?_⟩
    obtain ⟨y, hy, hm⟩ := bind_some hm
    refine m.run (good_start g dis) hy _ _ ?_
    cases y with
    | fl fl =>
      cases fl with
      | rt d' =>
        cases hm
        intro v H' T' s1 d1 e1 p1
        obtain ⟨H2, e2, s2, d2, s3⟩ := back dis s1 d1 e1
        show Q v (ov H' T')
        rw [e2]
        exact q v H2 s2 d2 (dp_mono s3 p1)
      | nx ρ =>
        cases hm
        intro σ' H' T' G'
        obtain ⟨H2, e2, s2, d2, s3⟩ := back dis G'.ex G'.dis G'.ext
        show Q .non (ov H' T')
        rw [e2]
        exact q _ H2 s2 d2 .non
      | bk ρ => cases hm
      | ct ρ => cases hm
    | ex c ρ =>
      cases hm
      intro σ' H' T' G'
      obtain ⟨H2, e2, s2, d2, s3⟩ := back dis G'.ex G'.dis G'.ext
      show E (.ref (cl c)) none (ov H' T')
      rw [e2]
      exact q H2 s2 d2
def xCallD (n : Nat) (dd : List D) (mf : List D → Option Rs) (m : En → Option (List D)) : En → Option Rs := fun ρ => (m ρ).bind fun ds => if (ds ++ dd).length = n then mf (ds ++ dd) else none
def limD (n : Nat) (dd : List D) (m : List D → Option Rs) : List D → Option D := fun ds => if (ds ++ dd).length = n then (m (ds ++ dd)).bind okR else none
theorem ex_callD {n : Nat} {dvs : List V} {dd : List D} {mf : List D → Option Rs} {t : TA} {m : En → Option (List D)} (hdd : ∀ H, DpAll K H dvs dd) (ha : TAm K t m) : EX K cl (fun W => tCallSD (spX K cl n mf) dvs (WE W) t) (xCallD n dd mf m) := by
  refine ⟨fun {H0 T0 σ ρ H T r} G h W Q q => ?_⟩
  obtain ⟨x, hx, h⟩ := bind_some h
  refine ha.run G hx _ fun vs H1 s1 d1 p1 => ?_
  split at h
  · rename_i hn
    refine ⟨x ++ dd, r, H1, T, dpa_append p1 (hdd H1), hn, h, rfl, d1, ?_⟩
    cases r with
    | ok d => exact fun v H' s2 d2 p2 => q v H' (s1.trans s2) d2 p2
    | ex c => exact fun H' s2 d2 => q H' (s1.trans s2) d2
  · cases h
theorem ev_callXD {n : Nat} {dvs : List V} {dd : List D} {mf : List D → Option Rs} {t : TA} {m : En → Option (List D)} {E : L2.St → XK} (hdd : ∀ H, DpAll K H dvs dd) (ha : TAm K t m) : ET K (tCallSD (spX K cl n mf) dvs E t) (mCall (limD n dd mf) m) := by
  refine ⟨fun {H0 T0 σ ρ H T d} G h Q q => ?_⟩
  obtain ⟨x, hx, h⟩ := bind_some h
  refine ha.run G hx _ fun vs H1 s1 d1 p1 => ?_
  unfold limD at h
  split at h
  · rename_i hn
    obtain ⟨r, hr, h⟩ := bind_some h
    cases r with
    | ok d' =>
      cases h
      exact ⟨x ++ dd, .ok d, H1, T, dpa_append p1 (hdd H1), hn, hr, rfl, d1, fun v H' s2 d2 p2 => q v H' (s1.trans s2) d2 p2⟩
    | ex c => cases h
  · cases h
/-! ### (f(..), ..), f raising -/
def xTupC (m : En → Option Rs) (mr : En → Option (List D)) : En → Option Rs := fun ρ => (m ρ).bind fun r => match r with
  | .ok d => (mr ρ).bind fun ds => (sized (d :: ds)).map fun x => .ok (.tuple x)
  | .ex c => some (.ex c)
theorem ex_tupC {te : WX → TE} {tr : TA} {m : En → Option Rs} {mr : En → Option (List D)} (h1 : EX K cl te m) (h2 : TAm K tr mr) : EX K cl (fun W => tTup (tCons (te W) tr)) (xTupC m mr) := by
  refine ⟨fun {H0 T0 σ ρ H T r} G hm W Q q => ?_⟩
  obtain ⟨r1, hr1, hm⟩ := bind_some hm
  cases r1 with
  | ok d =>
    obtain ⟨ds, hds, hm⟩ := bind_some hm
    obtain ⟨x, hx, e⟩ := map_some hm
    subst e
    obtain ⟨rfl, hz⟩ := sized_some hx
    refine h1.run G hr1 W _ fun v H1 s1 d1 p1 => ?_
    refine h2.run (G.mono s1 d1) hds _ fun vs H2 s2 d2 p2 => ?_
    have pa : DpAll K H2 (v :: vs) (d :: ds) := .cons (dp_mono s2 p1) p2
    refine ⟨cap_line (by rw [dpa_len pa]; exact hz), fun p np => ?_⟩
    obtain ⟨nT, nH⟩ := ov_free np
    rw [upd_ov nT]
    exact q _ _ ((s1.trans s2).trans (same_new nH)) (dis_upd d2 nT nH) (.tup (SqT.of upd_same) (dpa_mono (same_new nH) pa))
  | ex c =>
    cases hm
    exact h1.run G hr1 W _ q
/-! ### a dict of defs -/
structure DictF (K : PySem.W.Frag) (w : World) (d : Addr) (fs : List (Str × Addr)) : Prop where
  kd : ∃ es n, KDict K w d es n
  any : ∀ z, PySem.W.nsIn K d z = some ((fs.find? fun kv => kv.1 == z).map fun kv => Value.ref kv.2)
theorem op_inF {X : Cx} {d : Addr} {fs : List (Str × Addr)} (C : DictF X.K X.w d fs) : OpR X (compareOp .In) (rInK X.K d) := let ⟨_, _, k⟩ := C.kd; op_in_kd k
theorem ix_getF {X : Cx} {d : Addr} {fs : List (Str × Addr)} (C : DictF X.K X.w d fs) : IxR X (rGetK X.K d) := by
  obtain ⟨es, n, k⟩ := C.kd
  intro value slice pins s σ H x y v u Q I rx ry h hs
  obtain ⟨z, u0, v0, rfl, rfl, e, r, q⟩ := h
  exact ix_kdict value slice pins s σ H _ _ v u Q I rx ry ⟨d, z, v0, rfl, rfl, ⟨es, n, u0, k.at_, k.lit, e, r⟩, q⟩ hs
def dInF (ks : List Str) : D → Option D
  | .str z => some (.bool (ks.any (· == z)))
  | _ => none
theorem find_any {α : Type} (z : Str) : ∀ l : List (Str × α), (l.find? fun kv => kv.1 == z).isSome = (l.map (·.1)).any (· == z)
  | [] => rfl
  | e :: l => by
    rw [List.find?_cons, List.map_cons, List.any_cons]
    cases h : (e.1 == z) with
    | true => rfl
    | false =>
      show (l.find? fun kv => kv.1 == z).isSome = (false || (l.map (·.1)).any (· == z))
      rw [Bool.false_or]
      exact find_any z l
theorem ev_inF {w : World} {d : Addr} {fs : List (Str × Addr)} {ta : TE} {ma : En → Option D} (C : DictF K w d fs) (ha : ET K ta ma) : ET K (tOp (rInK K d) ta (tC (.ref d))) (mUn (dInF (fs.map (·.1))) ma) := by
  refine ⟨fun {H0 T0 σ ρ H T y} G h Q q => ?_⟩
  obtain ⟨x, hx, h⟩ := bind_some h
  refine ha.run G hx _ fun v H1 s1 d1 p1 => ?_
  unfold dInF at h
  split at h
  · rename_i z
    cases h
    refine ⟨z, _, dp_str p1, rfl, C.any z, ?_⟩
    rw [Option.isSome_map, find_any z fs]
    exact q _ H1 s1 d1 (.bl _)
  · cases h
def tCallM (i : Nat) (l : List (Addr × Sp)) (t : TA) : TE := fun σ H Q => ∃ p ∈ l, σ[i]? = some (some (.ref p.1)) ∧ t σ H fun vs H1 => p.2 vs H1 Q fun _ _ _ => False
theorem pe_callM {X : Cx} {k i : Nat} {x : Str} {l : List (Addr × Sp)} {t : TA} {e : Expr} {es : List Expr} {p pos : Pos} (A : ∀ p ∈ l, Held X.prog X.w X.K X.mg X.base k p.1 p.2) (hr : Room k X.A) (hN : X.N[i]? = some x) (hv : Vis X.env.scope x) (ha : PA X (e :: es) t)
    (hdb : (x == ("__debug__" : Str)) = false := by decide) (hcd : (x == ("__classdict__" : Str)) = false := by decide) (he : starEach (e :: es) X.env = (false, eval e X.env) :: starEach es X.env := by rfl) (hpl : (backTo pos (starEach es X.env)).any (·.1) = false := by rfl) :
    PE X (.Call (.Name x p) (e :: es) [] pos) (tCallM i l t) := by
  refine ⟨fun pins s σ H Q I h => ?_⟩
  obtain ⟨c, hc, hs, ht⟩ := h
  obtain ⟨fd, ps, F, hk, hb⟩ := (A c hc).ex
  have key : PE X (.Call (.Name x p) (e :: es) [] pos) (tCallL i c.1 c.2 [] (fun _ _ _ => False) t) := pe_callL F hr hN hv hk hb .nil (fun _ _ _ _ _ _ _ z => z.elim) ha hdb hcd he hpl
  refine key.run pins s σ H Q I ⟨hs, ?_⟩
  have e0 : (fun (vs : List V) (H1 : Hp) => c.2 (vs ++ []) H1 Q (fun _ _ _ => False)) = fun vs H1 => c.2 vs H1 Q (fun _ _ _ => False) := by
    funext vs H1
    rw [List.append_nil]
  rw [e0]
  exact ht
theorem Good.undef {H0 H : Hp} {T0 T : Ov} {σ : L2.St} {ρ : En} (i : Nat) (x : Option V) (G : Good K H0 T0 σ ρ H T) : Good K H0 T0 (σ.set i x) (ρ.set i none) H T := by
  refine ⟨by rw [List.length_set, List.length_set]; exact G.len, fun j x h => ?_, fun j x h => ?_, fun j k ds es p h1 h2 h3 h4 => ?_, G.dis, G.ext, G.ex, exc_set G.exc (fun _ z => by cases z)⟩
  · rcases get_set h with ⟨_, z, _⟩ | ⟨e, z⟩
    · cases z
    · obtain ⟨w, a, b⟩ := G.val j x z
      exact ⟨w, by rw [List.getElem?_set_ne (Ne.symm e)]; exact a, b⟩
  · rcases get_set h with ⟨_, z, _⟩ | ⟨e, z⟩
    · cases z
    · obtain ⟨p, xs, a, b⟩ := G.own j x z
      exact ⟨p, xs, by rw [List.getElem?_set_ne (Ne.symm e)]; exact a, b⟩
  · rcases get_set h1 with ⟨_, z, _⟩ | ⟨e1, z1⟩
    · cases z
    · rcases get_set h2 with ⟨_, z, _⟩ | ⟨e2, z2⟩
      · cases z
      · rw [List.getElem?_set_ne (Ne.symm e1)] at h3
        rw [List.getElem?_set_ne (Ne.symm e2)] at h4
        exact G.inj j k ds es p z1 z2 h3 h4
/-- f = dict[key]; return f(..) -/
def sDisp (i n : Nat) (ft : List (Str × (List D → Option D))) (mk : En → Option D) (ma : En → Option (List D)) : En → Option Fl := fun ρ => (mk ρ).bind fun k => match k with
  | .str z => match ft.find? fun e => e.1 == z with
    | some e => if i < ρ.length then (ma (ρ.set i none)).bind fun ds => if ds.length = n then (e.2 ds).map .rt else none else none
    | none => none
  | _ => none
theorem find_tab {z : Str} : ∀ (l : List (Str × Addr × (List D → Option D))) {e : Str × (List D → Option D)}, (l.map fun e => (e.1, e.2.2)).find? (fun e => e.1 == z) = some e → ∃ c ∈ l, (l.map fun e => (e.1, e.2.1)).find? (fun e => e.1 == z) = some (c.1, c.2.1) ∧ e = (c.1, c.2.2)
  | [], e, h => by cases h
  | c :: l, e, h => by
    rw [List.map_cons, List.find?_cons] at h ⊢
    cases hz : (c.1 == z) with
    | true =>
      rw [show (((c.1, c.2.2) : Str × (List D → Option D)).1 == z) = true from hz] at h
      refine ⟨c, List.mem_cons_self, ?_, (Option.some.inj h).symm⟩
      rfl
    | false =>
      rw [show (((c.1, c.2.2) : Str × (List D → Option D)).1 == z) = false from hz] at h
      obtain ⟨c', m, a, b⟩ := find_tab l h
      exact ⟨c', List.mem_cons_of_mem _ m, a, b⟩
theorem st_disp {w : World} {d : Addr} {i n : Nat} {l : List (Str × Addr × (List D → Option D))} {tk : TE} {ta : TA} {mk : En → Option D} {ma : En → Option (List D)} (C : DictF K w d (l.map fun e => (e.1, e.2.1))) (hk : ET K tk mk) (ha : TAm K ta ma) :
    TSm K (tSeq (tAsg (tOp (rGetK K d) (tC (.ref d)) tk) (gName i)) (tRet (tCallM i (l.map fun e => (e.2.1, spM K n e.2.2)) ta))) (sDisp i n (l.map fun e => (e.1, e.2.2)) mk ma) := by
  refine ⟨fun {H0 T0 σ ρ H T f} G h E q => ?_⟩
  obtain ⟨x, hx, h⟩ := bind_some h
  split at h
  · rename_i z
    split at h
    · rename_i e hf
      have hil : i < ρ.length := by
        by_cases z : i < ρ.length
        · exact z
        · rw [if_neg z] at h
          cases h
      rw [if_pos hil] at h
      rw [G.len] at hil
      obtain ⟨ds, hds, h⟩ := bind_some h
      split at h
      · rename_i hn
        obtain ⟨y, hy, h⟩ := map_some h
        subst h
        obtain ⟨c, cm, c1, c2⟩ := find_tab l hf
        refine hk.run G hx _ fun v H1 s1 d1 p1 => ?_
        have en : PySem.W.nsIn K d z = some (some (.ref c.2.1)) := by rw [C.any z, c1]; rfl
        refine ⟨z, .ref c.2.1, .ref c.2.1, rfl, dp_str p1, en, rfl, ?_⟩
        have G1 := (G.mono s1 d1).undef i (some (.ref c.2.1))
        refine ⟨(c.2.1, spM K n c.2.2), List.mem_map.mpr ⟨c, cm, rfl⟩, set_self hil, ?_⟩
        refine ha.run G1 hds _ fun vs H2 s2 d2 p2 => ?_
        rw [c2] at hy
        exact ⟨ds, y, H2, T, p2, hn, hy, rfl, d2, fun u H3 s3 d3 p3 => q u H3 T (G1.ex.trans (s2.trans s3)) d3 G.ext p3⟩
      · cases h
    · cases h
  · cases h
end
/-! ### x is True, whatever x is -/
def isKind : V → Bool → Option Bool
  | .bl a, b => some (decide (a = b))
  | .non, _ => some false
  | .int _, _ => some false
  | .str _, _ => some false
  | .ref _, _ => some false
  | _, _ => none
def rIsBA : R2 := fun x y H Q => ∃ b c : Bool, y = .bl b ∧ isKind x b = some c ∧ Q (.bl c) H
theorem op_isBA {X : Cx} : OpR X (compareOp .Is) rIsBA := by
  intro pins s σ H x y v u Q I rx ry h
  obtain ⟨b, c, rfl, e, q⟩ := h
  cases (show u = Value.bool b from ry)
  cases x with
  | bl a =>
    cases (show v = Value.bool a from rx)
    cases e
    by_cases z : a = b
    · rw [decide_eq_true z] at q
      rw [z]
      exact wpAny_is_self rfl ⟨.bl true, H, I, rfl, q⟩
    · rw [decide_eq_false z] at q
      exact wpAny_is_other rfl (fun k => z (Value.bool.inj k)) ⟨.bl false, H, I, rfl, q⟩
  | non =>
    cases (show v = Value.none from rx)
    cases e
    exact wpAny_is_other rfl (fun k => Value.noConfusion k) ⟨.bl false, H, I, rfl, q⟩
  | int i =>
    obtain ⟨t, rfl⟩ := (show ∃ t, v = Value.int i t from rx)
    cases e
    exact wpAny_is_other rfl (fun k => Value.noConfusion k) ⟨.bl false, H, I, rfl, q⟩
  | str z =>
    obtain ⟨t, rfl⟩ := (show ∃ t, v = Value.str z t from rx)
    cases e
    exact wpAny_is_other rfl (fun k => Value.noConfusion k) ⟨.bl false, H, I, rfl, q⟩
  | ref a =>
    cases (show v = Value.ref a from rx)
    cases e
    exact wpAny_is_other rfl (fun k => Value.noConfusion k) ⟨.bl false, H, I, rfl, q⟩
  | _ => cases e
def dIsB : D → D → Option D
  | .bool a, .bool b => some (.bool (decide (a = b)))
  | .none, .bool _ => some (.bool false)
  | .int _, .bool _ => some (.bool false)
  | .str _, .bool _ => some (.bool false)
  | .tuple _, .bool _ => some (.bool false)
  | .list _, .bool _ => some (.bool false)
  | _, _ => none
theorem rd_isB {K : PySem.W.Frag} : RD K rIsBA dIsB := by
  refine ⟨fun {H T x y a b d} dis ha hb h Q q => ?_⟩
  unfold dIsB at h
  split at h
  · cases h
    exact ⟨_, _, dp_bool hb, by rw [dp_bool ha]; rfl, q _ H (Same.refl H) dis (.bl _)⟩
  · cases h
    exact ⟨_, false, dp_bool hb, by cases ha; rfl, q _ H (Same.refl H) dis (.bl _)⟩
  · cases h
    exact ⟨_, false, dp_bool hb, by cases ha; rfl, q _ H (Same.refl H) dis (.bl _)⟩
  · cases h
    exact ⟨_, false, dp_bool hb, by cases ha; rfl, q _ H (Same.refl H) dis (.bl _)⟩
  · cases h
    exact ⟨_, false, dp_bool hb, by cases ha; rfl, q _ H (Same.refl H) dis (.bl _)⟩
  · cases h
    exact ⟨_, false, dp_bool hb, by cases ha; rfl, q _ H (Same.refl H) dis (.bl _)⟩
  · cases h
end DD

set_option Elab.async false
set_option linter.all false
set_option maxRecDepth 100000
set_option maxHeartbeats 4000000
/-! what the top leaves: defs with defaults, dicts of defs -/
namespace DD
open PySem PySem.Spec PyProof.Rows L2
theorem funD_mk {K : PySem.W.Frag} {x qual : Str} {st : Stmt} {f dt : Addr} {oc kV doc pm cdv ct dcl : Value} {od an ddd : Option Addr} {osl dsl : Array (Option Value)} {di : Array Value} {dn : Nat} {dvs : List V}
    (l : K.lookup f = some ⟨oc, od, .func (PySem.W.fnOf x qual (defArgs st) (defBody st) (defScope st) (.ref dt) kV doc pm an cdv ct), osl⟩) (c : PySem.W.codeIn K cdv qual = true) (k : PySem.W.keepIn K (.ref f) = true) (lt : K.lookup dt = some ⟨dcl, ddd, .seq di dn, dsl⟩) (vt : Vals dvs di.toList) (hne : dvs ≠ []) :
    FunD K x qual (defArgs st) (defBody st) (defScope st) dvs [] f (PySem.W.fnOf x qual (defArgs st) (defBody st) (defScope st) (.ref dt) kV doc pm an cdv ct) :=
  ⟨⟨oc, od, .ref dt, kV, doc, pm, an, cdv, ct, osl, rfl, l, c, .inr ⟨hne, dt, _, di.toList, dn, rfl, lt, rfl, vt⟩, .inl rfl⟩, k⟩
theorem binds_all {K : PySem.W.Frag} {fd : FuncData} {ps : List Str} {dvs : List V} (h : ∃ ds, Vals (dvs.drop dvs.length) ds ∧ Binds K fd ps ds) : Binds K fd ps [] := by
  obtain ⟨ds, r, b⟩ := h
  rw [List.drop_length] at r
  cases r
  exact b
def refsOf (fs : List (Str × Addr)) : List (Option Str × Value) := fs.map fun kv => (some kv.1, .ref kv.2)
theorem keys_refs {P : Params} : ∀ {l : List DictEntry} {fs : List (Str × Addr)}, PySem.W.KeysLit P l → l.map (fun e => (keyS e, e.val)) = refsOf fs → l.map He.keyOf = He.keysIn P (fs.map (·.1))
  | [], [], _, _ => rfl
  | [], _ :: _, _, h => by cases h
  | _ :: _, [], _, h => by cases h
  | e :: r, kv :: fs, y, h => by
    obtain ⟨⟨x, t, e1, e2⟩, y2⟩ := y
    have h' : (keyS e, e.val) :: r.map (fun e => (keyS e, e.val)) = (some kv.1, Value.ref kv.2) :: refsOf fs := h
    obtain ⟨h1, h2⟩ := List.cons.inj h'
    have ke : keyS e = some x := by unfold keyS; rw [e1]
    have kx : x = kv.1 := by
      have := (Prod.mk.inj h1).1
      rw [ke] at this
      exact Option.some.inj this
    have ih := keys_refs y2 h2
    show He.keyOf e :: r.map He.keyOf = some (kv.1, PyData.keyHash P kv.1) :: He.keysIn P (fs.map (·.1))
    rw [ih]
    have : He.keyOf e = some (x, PyData.keyHash P x) := by
      unfold He.keyOf
      rw [e1, e2]
    rw [this, kx]
theorem find_refs {P : Params} (z : Str) : ∀ {l : List DictEntry} {fs : List (Str × Addr)}, PySem.W.KeysLit P l → l.map (fun e => (keyS e, e.val)) = refsOf fs →
    (l.find? (·.key.isStr z)).map (·.val) = (fs.find? fun kv => kv.1 == z).map fun kv => Value.ref kv.2
  | [], [], _, _ => rfl
  | [], _ :: _, _, h => by cases h
  | _ :: _, [], _, h => by cases h
  | e :: r, kv :: fs, y, h => by
    obtain ⟨⟨x, t, e1, e2⟩, y2⟩ := y
    have h' : (keyS e, e.val) :: r.map (fun e => (keyS e, e.val)) = (some kv.1, Value.ref kv.2) :: refsOf fs := h
    obtain ⟨h1, h2⟩ := List.cons.inj h'
    have ke : keyS e = some x := by unfold keyS; rw [e1]
    have kx : x = kv.1 := by
      have := (Prod.mk.inj h1).1
      rw [ke] at this
      exact Option.some.inj this
    have ek : e.key.isStr z = (kv.1 == z) := by rw [e1, ← kx]; rfl
    have ih := find_refs z y2 h2
    rw [List.find?_cons, List.find?_cons, ek]
    cases hz : (kv.1 == z) with
    | true => exact congrArg some (Prod.mk.inj h1).2
    | false => exact ih
theorem dictF_mk {K : PySem.W.Frag} {w : World} {a : Addr} {es : Array DictEntry} {n : Nat} {fs : List (Str × Addr)} (l : K.lookup a = some ⟨.type "dict", none, .dict es n, #[]⟩) (y : PySem.W.KeysLit w.params es.toList) (z : (a == sysModules) = false)
    (v : es.toList.map (fun e => (keyS e, e.val)) = refsOf fs) : DictF K w a fs := by
  have kl := keys_refs y v
  have h1 : He.dicW K a = some (He.keysIn w.params (fs.map (·.1))) := by
    unfold He.dicW
    rw [l]
    show (match decide ("dict" = "dict") && ((#[] : Array (Option Value)).isEmpty && !(a == sysModules)) with
      | true => some (es.toList.map He.keyOf)
      | false => none) = _
    rw [z, kl]
    rfl
  obtain ⟨es', n', kd⟩ := He.dicW_ok h1
  have he : es' = es := by
    have := kd.at_
    rw [l] at this
    have e2 := congrArg (fun o => o.map Obj.data) this
    simp at e2
    exact e2.1.symm
  subst he
  refine ⟨⟨es', n', kd⟩, fun k => ?_⟩
  have nr : es'.toList.any (·.refKey) = false := by
    rw [List.any_eq_false]
    intro e he
    obtain ⟨x, t, ek, _⟩ := PySem.W.KeysLit.all kd.lit e he
    simp [DictEntry.refKey, ek]
  have fr := find_refs k y v
  unfold PySem.W.nsIn
  rw [kd.at_]
  simp only
  cases q : es'.toList.find? (·.key.isStr k) with
  | some e =>
    rw [q] at fr
    rw [← fr]
    rfl
  | none =>
    rw [q] at fr
    rw [← fr]
    simp only
    rw [if_neg (by rw [nr]; exact Bool.false_ne_true)]
    rfl
end DD

set_option Elab.async false
set_option linter.all false
set_option maxRecDepth 100000
set_option maxHeartbeats 4000000
/-! reckoning with mirrors -/
namespace DD
open PySem PySem.Spec PyProof.Rows L2
section
variable {ρ ρ' : En} {a b : En → Option Fl} {f : Fl} {d e : D}
theorem seq_nx (h : a ρ = some (.nx ρ')) : sSeq a b ρ = b ρ' := by unfold sSeq; rw [h]; rfl
theorem seq_rt (h : a ρ = some (.rt d)) : sSeq a b ρ = some (.rt d) := by unfold sSeq; rw [h]; rfl
theorem if_t {c : En → Option Bool} (h : c ρ = some true) : sIf c a b ρ = a ρ := by unfold sIf; rw [h]; rfl
theorem if_f {c : En → Option Bool} (h : c ρ = some false) : sIf c a b ρ = b ρ := by unfold sIf; rw [h]; rfl
theorem asg_set {m : En → Option D} {i : Nat} (h : m ρ = some d) : sAsg m (gSet i) ρ = some (.nx (ρ.set i (some (.val d)))) := by unfold sAsg; rw [h]; rfl
theorem par_set {m n : En → Option D} {i j : Nat} (h : m ρ = some d) (k : n ρ = some e) : sPar i j m n ρ = some (.nx ((ρ.set i (some (.val d))).set j (some (.val e)))) := by unfold sPar; rw [h, k]; rfl
theorem ret_of {m : En → Option D} (h : m ρ = some d) : sRet m ρ = some (.rt d) := by unfold sRet; rw [h]; rfl
theorem op_of {g : D → D → Option D} {m n : En → Option D} {x y : D} (h : m ρ = some x) (k : n ρ = some y) : mOp g m n ρ = g x y := by unfold mOp; rw [h, k]; rfl
theorem un_of {g : D → Option D} {m : En → Option D} {x : D} (h : m ρ = some x) : mUn g m ρ = g x := by unfold mUn; rw [h]; rfl
theorem call_of {g : List D → Option D} {m : En → Option (List D)} {x : List D} (h : m ρ = some x) : mCall g m ρ = g x := by unfold mCall; rw [h]; rfl
theorem cons_of {m : En → Option D} {n : En → Option (List D)} {x : D} {y : List D} (h : m ρ = some x) (k : n ρ = some y) : mCons m n ρ = some (x :: y) := by unfold mCons; rw [h, k]; rfl
theorem nil_of : mNil ρ = some [] := rfl
theorem test_of {m : En → Option D} {c : Bool} (h : m ρ = some (.bool c)) : mTest m ρ = some c := by unfold mTest; rw [h]; rfl
theorem tru_of {m : En → Option D} {x : D} (h : m ρ = some x) : mTru m ρ = tru x := by unfold mTru; rw [h]; rfl
theorem tup_of {m : En → Option (List D)} {x : List D} (h : m ρ = some x) (k : x.length ≤ cap) : mTup m ρ = some (.tuple x) := by unfold mTup; rw [h]; simp [sized, k]
theorem lst_of {m : En → Option (List D)} {x : List D} (h : m ρ = some x) (k : x.length ≤ cap) : mLst m ρ = some x := by unfold mLst; rw [h]; simp [sized, k]
theorem list_of {m : En → Option (List D)} {x : List D} (h : m ρ = some x) : mList m ρ = some (.list x) := by unfold mList; rw [h]; rfl
theorem lim_of {n : Nat} {m : List D → Option D} {x : List D} (h : x.length = n) : lim n m x = m x := by unfold lim; rw [if_pos h]
theorem lim1 {m : List D → Option D} {x : D} : lim 1 m [x] = m [x] := rfl
theorem lim2 {m : List D → Option D} {x y : D} : lim 2 m [x, y] = m [x, y] := rfl
theorem lim3 {m : List D → Option D} {x y z : D} : lim 3 m [x, y, z] = m [x, y, z] := rfl
theorem or_t {m n : En → Option Bool} (h : m ρ = some true) : mOr m n ρ = some true := by unfold mOr; rw [h]; rfl
theorem or_f {m n : En → Option Bool} (h : m ρ = some false) : mOr m n ρ = n ρ := by unfold mOr; rw [h]; rfl
theorem and_t {m n : En → Option Bool} (h : m ρ = some true) : mAnd m n ρ = n ρ := by unfold mAnd; rw [h]; rfl
theorem and_f {m n : En → Option Bool} (h : m ρ = some false) : mAnd m n ρ = some false := by unfold mAnd; rw [h]; rfl
theorem not_of {m : En → Option Bool} {c : Bool} (h : m ρ = some c) : mNot m ρ = some (!c) := by unfold mNot; rw [h]; rfl
theorem andV_t {m n : En → Option D} (h : m ρ = some (.bool true)) : mAndV m n ρ = n ρ := by unfold mAndV; rw [h]; rfl
theorem andV_f {m n : En → Option D} (h : m ρ = some (.bool false)) : mAndV m n ρ = some (.bool false) := by unfold mAndV; rw [h]; rfl
theorem notV_of {m : En → Option D} {c : Bool} (h : m ρ = some (.bool c)) : mNotV m ρ = some (.bool (!c)) := by unfold mNotV; rw [h]; rfl
theorem ifE_t {c : En → Option Bool} {m n : En → Option D} (h : c ρ = some true) : mIfE c m n ρ = m ρ := by unfold mIfE; rw [h]; rfl
theorem ifE_f {c : En → Option Bool} {m n : En → Option D} (h : c ρ = some false) : mIfE c m n ρ = n ρ := by unfold mIfE; rw [h]; rfl
theorem mDef_rt {N : Nat} {ds : List D} (h : a (start0 N ds) = some (.rt d)) : mDef N a ds = some d := by unfold mDef; rw [h]; rfl
theorem dEq_of (h : SeqAt.shaped d = true) (k : SeqAt.shaped e = true) : dEq d e = some (.bool (PyData.eqv d e)) := by unfold dEq; rw [h, k]; rfl
theorem dNe_of (h : SeqAt.shaped d = true) (k : SeqAt.shaped e = true) : dNe d e = some (.bool (!PyData.eqv d e)) := by unfold dNe; rw [h, k]; rfl
end

theorem dLen_list {ds : List D} (h : ds.length ≤ cap) : dLen [.list ds] = some (.int ds.length) := if_pos h
theorem dLen_tup {ds : List D} (h : ds.length ≤ cap) : dLen [.tuple ds] = some (.int ds.length) := if_pos h
theorem dLen_str {z : Str} (h : z.length ≤ cap) : dLen [.str z] = some (.int z.length) := if_pos h
theorem dMod_of {i j : Int} (h : 0 < j) : dMod (.int i) (.int j) = some (.int (i % j)) := if_pos h
theorem dFdiv_of {i j : Int} (h : 0 < j) (k : j.natAbs < 2 ^ 64) : dFdiv (.int i) (.int j) = some (.int (i / j)) := if_pos ⟨h, by
  have := PySem.Flt.log2_lt_of (show 0 < 64 by decide) k
  omega⟩
theorem dMul_r {i j : Int} (h : -(2 ^ 64) < j) (k : j < 2 ^ 64) : dMul (.int i) (.int j) = some (.int (i * j)) := by
  have : inW j = true := by unfold inW; rw [decide_eq_true h, decide_eq_true k]; rfl
  show (if (inW i || inW j) = true then _ else _) = _
  rw [this, Bool.or_true, if_pos rfl]
theorem whl_t {c : En → Option Bool} {b : En → Option Fl} {n : Nat} {ρ ρ2 : En} (h : c ρ = some true) (k : b ρ = some (.nx ρ2)) : whl c b (n + 1) ρ = whl c b n ρ2 := by
  have : whl c b (n + 1) ρ = (c ρ).bind fun x => if x = true then (b ρ).bind fun f => match f with
      | .nx ρ2 => whl c b n ρ2
      | .ct ρ2 => whl c b n ρ2
      | .bk ρ2 => some (.nx ρ2)
      | .rt d => some (.rt d)
    else some (.nx ρ) := rfl
  rw [this, h]
  show ((b ρ).bind fun f => _) = _
  rw [k]
  rfl
theorem whl_f {c : En → Option Bool} {b : En → Option Fl} {n : Nat} {ρ : En} (h : c ρ = some false) : whl c b (n + 1) ρ = some (.nx ρ) := by
  have : whl c b (n + 1) ρ = (c ρ).bind fun x => if x = true then (b ρ).bind fun f => match f with
      | .nx ρ2 => whl c b n ρ2
      | .ct ρ2 => whl c b n ρ2
      | .bk ρ2 => some (.nx ρ2)
      | .rt d => some (.rt d)
    else some (.nx ρ) := rfl
  rw [this, h]
  rfl

/-! ### comprehensions, loops -/
theorem coll_map {g : D → En → Option En} {e : En → Option D} {ρ : En} {f : D → D} : ∀ {ds : List D}, (∀ d ∈ ds, ∃ ρ1, g d ρ = some ρ1 ∧ e ρ1 = some (f d)) → coll g mYes e ρ ds = some (ds.map f)
  | [], _ => rfl
  | d :: ds, h => by
    obtain ⟨ρ1, h1, h2⟩ := h d List.mem_cons_self
    have ih := coll_map (g := g) (e := e) (ρ := ρ) (f := f) (ds := ds) fun x hx => h x (List.mem_cons_of_mem _ hx)
    have s1 : coll g mYes e ρ (d :: ds) = (g d ρ).bind fun ρ1 => (mYes ρ1).bind fun b => if b = true then (e ρ1).bind fun x => (coll g mYes e ρ ds).map fun r => x :: r else coll g mYes e ρ ds := rfl
    rw [s1, h1]
    show ((e ρ1).bind fun x => (coll g mYes e ρ ds).map fun r => x :: r) = _
    rw [h2, ih]
    rfl
theorem lc_of {it : En → Option (List D)} {g : D → En → Option En} {e : En → Option D} {ρ : En} {vs : List Nat} {ds : List D} {f : D → D} (hi : it ρ = some ds) (hz : ds.length ≤ cap) (h : ∀ d ∈ ds, ∃ ρ1, g d (wipeM ρ vs) = some ρ1 ∧ e ρ1 = some (f d)) :
    mLc it g mYes e vs ρ = some (ds.map f) := by
  unfold mLc
  rw [hi]
  show (if ds.length ≤ cap then _ else _) = _
  rw [if_pos hz]
  exact coll_map h
theorem bools_map (p : D → Bool) : ∀ ds : List D, bools (ds.map fun d => .bool (p d)) = some (ds.map p)
  | [] => rfl
  | d :: ds => by
    show (bools (ds.map fun d => .bool (p d))).map _ = _
    rw [bools_map p ds]
    rfl
theorem dAll_map (p : D → Bool) (ds : List D) : dAll [.list (ds.map fun d => .bool (p d))] = some (.bool (ds.all p)) := by
  show (bools (ds.map fun d => .bool (p d))).map (fun bs => PyData.bool (bs.all id)) = _
  rw [bools_map]
  show some (PyData.bool ((ds.map p).all id)) = _
  rw [List.all_map]
  rfl
theorem iter_tup {a : En → Option D} {ρ : En} {ds : List D} (h : a ρ = some (.tuple ds)) : mIter a ρ = some ds := by unfold mIter; rw [h]; rfl
theorem iter_lst {a : En → Option D} {ρ : En} {ds : List D} (h : a ρ = some (.list ds)) : mIter a ρ = some ds := by unfold mIter; rw [h]; rfl
theorem chain_of {g h : D → D → Option D} {a b c : En → Option D} {ρ : En} {x y z : D} {p q : Bool} (ha : a ρ = some x) (hb : b ρ = some y) (hc : c ρ = some z) (e1 : g x y = some (.bool p)) (e2 : h y z = some (.bool q)) : mChain g h a b c ρ = some (.bool (p && q)) := by
  unfold mChain
  rw [ha]
  show ((b ρ).bind fun y => _) = _
  rw [hb]
  show ((g x y).bind fun z => _) = _
  rw [e1]
  show (if p = true then (c ρ).bind fun w => h y w else some (.bool false)) = _
  cases p with
  | true => rw [if_pos rfl, hc]; show h y z = _; rw [e2]; rfl
  | false => rw [if_neg Bool.false_ne_true]; rfl

/-! ### a drawn number -/
def kIn (ρ : En) (i : Nat) (d : D) : Prop := ρ[i]? = some (some (.val d))
theorem var_of {ρ : En} {i : Nat} {d : D} (h : ρ[i]? = some (some (.val d))) : mVar i ρ = some d := by unfold mVar; rw [h]

def b_pick : En → Option Fl :=
  (sSeq (sAsg (mIfE (mTest (mOp dNe (mVar 0) (mList (mLst mNil)))) (mOp dIx (mVar 0) (mOp dMod (mVar 1) (mCall dLen (mCons (mVar 0) mNil)))) (mC (.int 0))) (gSet 3))
  (sSeq (sPar 4 5 (mOp dFdiv (mVar 3) (mOp dPow (mC (.int 10)) (mC (.int 18)))) (mOp dFdiv (mVar 1) (mCall dMax2 (mCons (mCall dLen (mCons (mVar 0) mNil)) (mCons (mC (.int 1)) mNil)))))
  (sSeq (sWhile (fun ρ => fuelOf 5 ρ) (mAnd (mTest (mOp dGt (mVar 4) (mC (.int 0)))) (mTest (mOp dGt (mVar 5) (mC (.int 0)))))
  (sPar 4 5 (mOp dFdiv (mVar 4) (mC (.int 840))) (mOp dSub (mVar 5) (mC (.int 1)))))
  (sSeq (sIf (mTest (mOp dGt (mVar 4) (mC (.int 0))))
  (sRet (mOp dMod (mOp dMod (mVar 4) (mC (.int 840))) (mVar 2)))
  sNext)
  (sSeq (sAsg (mOp dMod (mOp dMul (mOp dAdd (mOp dMul (mVar 3) (mC (.int 31))) (mOp dMul (mC (.int 6151)) (mOp dAdd (mVar 1) (mC (.int 1))))) (mC (.int 40692))) (mC (.int 2147483399))) (gSet 6))
  (sRet (mOp dMod (mOp dMod (mOp dAdd (mOp dMul (mVar 6) (mVar 6)) (mOp dFdiv (mVar 6) (mC (.int 31)))) (mC (.int 2147483629))) (mVar 2))))))))
def m_pick (ds : List D) : Option D := mDef 7 b_pick ds

theorem shaped_ints (ns : List Int) : SeqAt.shaped (.list (ns.map PyData.int)) = true := by
  have h1 : ∀ ns : List Int, PyData.canLayAll0 (ns.map PyData.int) = true := by
    intro ns
    induction ns with
    | nil => simp [PyData.canLayAll0]
    | cons n r ih => simp [PyData.canLayAll0, PyData.canLay0, ih]
  have h2 : ∀ ns : List Int, PyData.depthAll (ns.map PyData.int) = 0 := by
    intro ns
    induction ns with
    | nil => simp [PyData.depthAll]
    | cons n r ih => simp [PyData.depthAll, PyData.depth, ih]
  unfold SeqAt.shaped
  simp [PyData.canLay0, PyData.depth, h1, h2]
theorem shaped_nil : SeqAt.shaped (.list []) = true := shaped_ints []
theorem eqv_nil (ns : List Int) : PyData.eqv (.list (ns.map PyData.int)) (.list []) = ns.isEmpty := by
  cases ns <;> simp [PyData.eqv, PyData.eqvAll]
/-- the loop of a drawn number: rest and turn stay ints -/
theorem pick_loop : ∀ (n : Nat) (x : Int) (ρ : En) (sc k many c : D) (r t : Int) (g : Option Sl), 0 ≤ t → t.toNat + 1 = n →
    ∃ r' t' : Int, whl (mAnd (mTest (mOp dGt (mVar 4) (mC (.int 0)))) (mTest (mOp dGt (mVar 5) (mC (.int 0))))) (sPar 4 5 (mOp dFdiv (mVar 4) (mC (.int 840))) (mOp dSub (mVar 5) (mC (.int 1)))) n
      [some (.val sc), some (.val k), some (.val many), some (.val c), some (.val (.int r)), some (.val (.int t)), g] = some (.nx [some (.val sc), some (.val k), some (.val many), some (.val c), some (.val (.int r')), some (.val (.int t')), g])
  | 0, _, _, _, _, _, _, _, _, _, h, e => by omega
  | n + 1, x, ρ, sc, k, many, c, r, t, g, h, e => by
    have hc : mAnd (mTest (mOp dGt (mVar 4) (mC (.int 0)))) (mTest (mOp dGt (mVar 5) (mC (.int 0)))) [some (.val sc), some (.val k), some (.val many), some (.val c), some (.val (.int r)), some (.val (.int t)), g] = some (decide (0 < r) && decide (0 < t)) := by
      have a1 : mTest (mOp dGt (mVar 4) (mC (.int 0))) [some (.val sc), some (.val k), some (.val many), some (.val c), some (.val (.int r)), some (.val (.int t)), g] = some (decide (0 < r)) := rfl
      have a2 : mTest (mOp dGt (mVar 5) (mC (.int 0))) [some (.val sc), some (.val k), some (.val many), some (.val c), some (.val (.int r)), some (.val (.int t)), g] = some (decide (0 < t)) := rfl
      cases hq : decide (0 < r) with
      | true => rw [hq] at a1; rw [and_t a1, a2, Bool.true_and]
      | false => rw [hq] at a1; rw [and_f a1, Bool.false_and]
    cases hq : (decide (0 < r) && decide (0 < t)) with
    | true =>
      rw [hq] at hc
      rw [Bool.and_eq_true] at hq
      have ht : 0 < t := of_decide_eq_true hq.2
      have b1 : mOp dFdiv (mVar 4) (mC (.int 840)) [some (.val sc), some (.val k), some (.val many), some (.val c), some (.val (.int r)), some (.val (.int t)), g] = some (.int (r / 840)) := by
        rw [op_of (show mVar 4 _ = some (.int r) from rfl) (show mC (.int 840) _ = some (.int 840) from rfl)]
        exact dFdiv_of (by decide) (by decide)
      have b2 : mOp dSub (mVar 5) (mC (.int 1)) [some (.val sc), some (.val k), some (.val many), some (.val c), some (.val (.int r)), some (.val (.int t)), g] = some (.int (t - 1)) := rfl
      have hb := par_set (i := 4) (j := 5) b1 b2
      rw [whl_t hc hb]
      exact pick_loop n x ρ sc k many c (r / 840) (t - 1) g (by omega) (by omega)
    | false =>
      rw [hq] at hc
      rw [whl_f hc]
      exact ⟨r, t, rfl⟩
theorem log18 : ((10 : Int) ^ 18).natAbs.log2 < 9000 := by decide +kernel
theorem pick_ok (ns : List Int) (h63 : ns.length ≤ 63) (k many : Int) (hk : 0 ≤ k) (hk2 : k ≤ 100000) (hm : 1 ≤ many) (hm2 : many ≤ 2000000000) :
    ∃ r : Int, m_pick [.list (ns.map .int), .int k, .int many] = some (.int r) ∧ 0 ≤ r ∧ r < many := by
  have hlen : ((ns.map PyData.int).length : Nat) ≤ cap := by rw [List.length_map]; exact Nat.le_trans h63 (by decide)
  -- the cell
  have hcell : ∃ c : Int, mIfE (mTest (mOp dNe (mVar 0) (mList (mLst mNil)))) (mOp dIx (mVar 0) (mOp dMod (mVar 1) (mCall dLen (mCons (mVar 0) mNil)))) (mC (.int 0)) (start0 7 [.list (ns.map .int), .int k, .int many]) = some (.int c) := by
    have t0 : mTest (mOp dNe (mVar 0) (mList (mLst mNil))) (start0 7 [.list (ns.map .int), .int k, .int many]) = some (!ns.isEmpty) := by
      refine test_of ?_
      have e1 : mVar 0 (start0 7 [.list (ns.map .int), .int k, .int many]) = some (.list (ns.map .int)) := rfl
      have e2 : mList (mLst mNil) (start0 7 [.list (ns.map .int), .int k, .int many]) = some (.list []) := rfl
      rw [op_of e1 e2, dNe_of (shaped_ints ns) shaped_nil, eqv_nil]
    cases hn : ns with
    | nil =>
      subst hn
      exact ⟨0, by rw [ifE_f t0]; rfl⟩
    | cons n0 r0 =>
      have ne : 0 < ns.length := by rw [hn]; exact Nat.succ_pos _
      rw [← hn]
      rw [hn] at t0
      rw [← hn] at t0
      have t1 : mTest (mOp dNe (mVar 0) (mList (mLst mNil))) (start0 7 [.list (ns.map .int), .int k, .int many]) = some true := by
        rw [t0, hn]; rfl
      rw [ifE_t t1]
      have e1 : mVar 0 (start0 7 [.list (ns.map .int), .int k, .int many]) = some (.list (ns.map .int)) := rfl
      have e2 : mOp dMod (mVar 1) (mCall dLen (mCons (mVar 0) mNil)) (start0 7 [.list (ns.map .int), .int k, .int many]) = some (.int (k % (ns.length : Int))) := by
        have e3 : mCall dLen (mCons (mVar 0) mNil) (start0 7 [.list (ns.map .int), .int k, .int many]) = some (.int ns.length) := by
          rw [call_of (cons_of e1 nil_of), dLen_list hlen, List.length_map]
        rw [op_of (show mVar 1 _ = some (.int k) from rfl) e3]
        exact dMod_of (by omega)
      rw [op_of e1 e2]
      have b1 : 0 ≤ k % (ns.length : Int) := Int.emod_nonneg _ (by omega)
      have b2 : k % (ns.length : Int) < ns.length := Int.emod_lt_of_pos _ (by omega)
      obtain ⟨j, hj⟩ : ∃ j : Nat, k % (ns.length : Int) = (j : Int) := ⟨(k % (ns.length : Int)).toNat, by omega⟩
      rw [hj] at b2 ⊢
      have hjl : j < ns.length := by omega
      refine ⟨ns[j], ?_⟩
      show atI (ns.map PyData.int) (j : Int) = _
      exact atI_nat (by rw [List.getElem?_map, List.getElem?_eq_getElem hjl]; rfl)
  obtain ⟨c, hc⟩ := hcell
  have hmax : ∃ y : Int, mCall dMax2 (mCons (mCall dLen (mCons (mVar 0) mNil)) (mCons (mC (.int 1)) mNil)) [some (.val (.list (ns.map .int))), some (.val (.int k)), some (.val (.int many)), some (.val (.int c)), none, none, none] = some (.int y) ∧ 1 ≤ y ∧ y ≤ 63 := by
    have e1 : mVar 0 [some (.val (.list (ns.map .int))), some (.val (.int k)), some (.val (.int many)), some (.val (.int c)), none, none, none] = some (.list (ns.map .int)) := rfl
    have e3 : mCall dLen (mCons (mVar 0) mNil) [some (.val (.list (ns.map .int))), some (.val (.int k)), some (.val (.int many)), some (.val (.int c)), none, none, none] = some (.int ns.length) := by
      rw [call_of (cons_of e1 nil_of), dLen_list hlen, List.length_map]
    rw [call_of (cons_of e3 (cons_of (show mC (.int 1) _ = some (.int 1) from rfl) nil_of))]
    refine ⟨_, rfl, ?_, ?_⟩ <;> (split <;> omega)
  obtain ⟨y, hy, y1, y2⟩ := hmax
  have e2 : sPar 4 5 (mOp dFdiv (mVar 3) (mOp dPow (mC (.int 10)) (mC (.int 18)))) (mOp dFdiv (mVar 1) (mCall dMax2 (mCons (mCall dLen (mCons (mVar 0) mNil)) (mCons (mC (.int 1)) mNil))))
      [some (.val (.list (ns.map .int))), some (.val (.int k)), some (.val (.int many)), some (.val (.int c)), none, none, none] =
      some (.nx [some (.val (.list (ns.map .int))), some (.val (.int k)), some (.val (.int many)), some (.val (.int c)), some (.val (.int (c / 10 ^ 18))), some (.val (.int (k / y))), none]) := by
    have p1 : mOp dPow (mC (.int 10)) (mC (.int 18)) [some (.val (.list (ns.map .int))), some (.val (.int k)), some (.val (.int many)), some (.val (.int c)), none, none, none] = some (.int (10 ^ 18)) := by
      rw [op_of (show mC (.int 10) _ = some (.int 10) from rfl) (show mC (.int 18) _ = some (.int 18) from rfl)]
      rfl
    have p2 : mOp dFdiv (mVar 3) (mOp dPow (mC (.int 10)) (mC (.int 18))) [some (.val (.list (ns.map .int))), some (.val (.int k)), some (.val (.int many)), some (.val (.int c)), none, none, none] = some (.int (c / 10 ^ 18)) := by
      rw [op_of (show mVar 3 _ = some (.int c) from rfl) p1]
      exact dFdiv_of (by decide +kernel) (by decide +kernel)
    have p3 : mOp dFdiv (mVar 1) (mCall dMax2 (mCons (mCall dLen (mCons (mVar 0) mNil)) (mCons (mC (.int 1)) mNil))) [some (.val (.list (ns.map .int))), some (.val (.int k)), some (.val (.int many)), some (.val (.int c)), none, none, none] = some (.int (k / y)) := by
      rw [op_of (show mVar 1 _ = some (.int k) from rfl) hy]
      exact dFdiv_of (by omega) (by omega)
    rw [par_set p2 p3]
    rfl
  have hky : 0 ≤ k / y := Int.ediv_nonneg hk (by omega)
  obtain ⟨r', t', hl⟩ := pick_loop ((k / y).toNat + 1) 0 [] (.list (ns.map .int)) (.int k) (.int many) (.int c) (c / 10 ^ 18) (k / y) none hky rfl
  have fin : ∀ z : Int, ∃ r : Int, (if 0 < many then some (PyData.int (z % many)) else none) = some (.int r) ∧ 0 ≤ r ∧ r < many := fun z =>
    ⟨z % many, by rw [if_pos (by omega)], Int.emod_nonneg _ (by omega), Int.emod_lt_of_pos _ (by omega)⟩
  -- the whole
  have e0 : b_pick (start0 7 [.list (ns.map .int), .int k, .int many]) = (sSeq (sIf (mTest (mOp dGt (mVar 4) (mC (.int 0))))
      (sRet (mOp dMod (mOp dMod (mVar 4) (mC (.int 840))) (mVar 2))) sNext)
      (sSeq (sAsg (mOp dMod (mOp dMul (mOp dAdd (mOp dMul (mVar 3) (mC (.int 31))) (mOp dMul (mC (.int 6151)) (mOp dAdd (mVar 1) (mC (.int 1))))) (mC (.int 40692))) (mC (.int 2147483399))) (gSet 6))
      (sRet (mOp dMod (mOp dMod (mOp dAdd (mOp dMul (mVar 6) (mVar 6)) (mOp dFdiv (mVar 6) (mC (.int 31)))) (mC (.int 2147483629))) (mVar 2)))))
      [some (.val (.list (ns.map .int))), some (.val (.int k)), some (.val (.int many)), some (.val (.int c)), some (.val (.int r')), some (.val (.int t')), none] := by
    unfold b_pick
    rw [seq_nx (asg_set hc)]
    show sSeq _ _ [some (.val (.list (ns.map .int))), some (.val (.int k)), some (.val (.int many)), some (.val (.int c)), none, none, none] = _
    rw [seq_nx e2]
    have hw : sWhile (fun ρ => fuelOf 5 ρ) (mAnd (mTest (mOp dGt (mVar 4) (mC (.int 0)))) (mTest (mOp dGt (mVar 5) (mC (.int 0)))))
        (sPar 4 5 (mOp dFdiv (mVar 4) (mC (.int 840))) (mOp dSub (mVar 5) (mC (.int 1)))) [some (.val (.list (ns.map .int))), some (.val (.int k)), some (.val (.int many)), some (.val (.int c)), some (.val (.int (c / 10 ^ 18))), some (.val (.int (k / y))), none] = _ := hl
    rw [seq_nx hw]
  by_cases hr : 0 < r'
  · have hg : mTest (mOp dGt (mVar 4) (mC (.int 0))) [some (.val (.list (ns.map .int))), some (.val (.int k)), some (.val (.int many)), some (.val (.int c)), some (.val (.int r')), some (.val (.int t')), none] = some true := by
      refine test_of ?_
      rw [op_of (show mVar 4 _ = some (.int r') from rfl) (show mC (.int 0) _ = some (.int 0) from rfl)]
      show some (PyData.bool (decide (0 < r'))) = _
      rw [decide_eq_true hr]
    obtain ⟨r, h1, h2, h3⟩ := fin (r' % 840)
    refine ⟨r, mDef_rt ?_, h2, h3⟩
    rw [e0, seq_rt]
    rw [if_t hg]
    refine ret_of ?_
    have q1 : mOp dMod (mVar 4) (mC (.int 840)) [some (.val (.list (ns.map .int))), some (.val (.int k)), some (.val (.int many)), some (.val (.int c)), some (.val (.int r')), some (.val (.int t')), none] = some (.int (r' % 840)) := rfl
    rw [op_of q1 (show mVar 2 _ = some (.int many) from rfl)]
    exact h1
  · have hg : mTest (mOp dGt (mVar 4) (mC (.int 0))) [some (.val (.list (ns.map .int))), some (.val (.int k)), some (.val (.int many)), some (.val (.int c)), some (.val (.int r')), some (.val (.int t')), none] = some false := by
      refine test_of ?_
      rw [op_of (show mVar 4 _ = some (.int r') from rfl) (show mC (.int 0) _ = some (.int 0) from rfl)]
      show some (PyData.bool (decide (0 < r'))) = _
      rw [decide_eq_false hr]
    have hx : mOp dMod (mOp dMul (mOp dAdd (mOp dMul (mVar 3) (mC (.int 31))) (mOp dMul (mC (.int 6151)) (mOp dAdd (mVar 1) (mC (.int 1))))) (mC (.int 40692))) (mC (.int 2147483399))
        [some (.val (.list (ns.map .int))), some (.val (.int k)), some (.val (.int many)), some (.val (.int c)), some (.val (.int r')), some (.val (.int t')), none] = some (.int ((c * 31 + 6151 * (k + 1)) * 40692 % 2147483399)) := by
      have a1 : mOp dMul (mVar 3) (mC (.int 31)) [some (.val (.list (ns.map .int))), some (.val (.int k)), some (.val (.int many)), some (.val (.int c)), some (.val (.int r')), some (.val (.int t')), none] = some (.int (c * 31)) := by
        rw [op_of (show mVar 3 _ = some (.int c) from rfl) (show mC (.int 31) _ = some (.int 31) from rfl)]
        exact dMul_r (by decide) (by decide)
      have a2 : mOp dMul (mC (.int 6151)) (mOp dAdd (mVar 1) (mC (.int 1))) [some (.val (.list (ns.map .int))), some (.val (.int k)), some (.val (.int many)), some (.val (.int c)), some (.val (.int r')), some (.val (.int t')), none] = some (.int (6151 * (k + 1))) := by
        rw [op_of (show mC (.int 6151) _ = some (.int 6151) from rfl) (show mOp dAdd (mVar 1) (mC (.int 1)) _ = some (.int (k + 1)) from rfl)]
        exact dMul_r (by omega) (by omega)
      have a3 : mOp dAdd (mOp dMul (mVar 3) (mC (.int 31))) (mOp dMul (mC (.int 6151)) (mOp dAdd (mVar 1) (mC (.int 1)))) [some (.val (.list (ns.map .int))), some (.val (.int k)), some (.val (.int many)), some (.val (.int c)), some (.val (.int r')), some (.val (.int t')), none] = some (.int (c * 31 + 6151 * (k + 1))) := by
        rw [op_of a1 a2]
        rfl
      have a4 : mOp dMul (mOp dAdd (mOp dMul (mVar 3) (mC (.int 31))) (mOp dMul (mC (.int 6151)) (mOp dAdd (mVar 1) (mC (.int 1))))) (mC (.int 40692)) [some (.val (.list (ns.map .int))), some (.val (.int k)), some (.val (.int many)), some (.val (.int c)), some (.val (.int r')), some (.val (.int t')), none] = some (.int ((c * 31 + 6151 * (k + 1)) * 40692)) := by
        rw [op_of a3 (show mC (.int 40692) _ = some (.int 40692) from rfl)]
        exact dMul_r (by decide) (by decide)
      rw [op_of a4 (show mC (.int 2147483399) _ = some (.int 2147483399) from rfl)]
      rfl
    let z := (c * 31 + 6151 * (k + 1)) * 40692 % 2147483399
    have z0 : 0 ≤ z := Int.emod_nonneg _ (by decide)
    have z1 : z < 2147483399 := Int.emod_lt_of_pos _ (by decide)
    obtain ⟨r, h1, h2, h3⟩ := fin ((z * z + z / 31) % 2147483629)
    refine ⟨r, mDef_rt ?_, h2, h3⟩
    rw [e0, seq_nx (by rw [if_f hg]; rfl), seq_nx (asg_set hx)]
    refine ret_of ?_
    show mOp dMod (mOp dMod (mOp dAdd (mOp dMul (mVar 6) (mVar 6)) (mOp dFdiv (mVar 6) (mC (.int 31)))) (mC (.int 2147483629))) (mVar 2) [some (.val (.list (ns.map .int))), some (.val (.int k)), some (.val (.int many)), some (.val (.int c)), some (.val (.int r')), some (.val (.int t')), some (.val (.int z))] = _
    have b1 : mOp dMul (mVar 6) (mVar 6) [some (.val (.list (ns.map .int))), some (.val (.int k)), some (.val (.int many)), some (.val (.int c)), some (.val (.int r')), some (.val (.int t')), some (.val (.int z))] = some (.int (z * z)) := by
      rw [op_of (show mVar 6 _ = some (.int z) from rfl) (show mVar 6 _ = some (.int z) from rfl)]
      exact dMul_r (by omega) (by omega)
    have b2 : mOp dFdiv (mVar 6) (mC (.int 31)) [some (.val (.list (ns.map .int))), some (.val (.int k)), some (.val (.int many)), some (.val (.int c)), some (.val (.int r')), some (.val (.int t')), some (.val (.int z))] = some (.int (z / 31)) := by
      rw [op_of (show mVar 6 _ = some (.int z) from rfl) (show mC (.int 31) _ = some (.int 31) from rfl)]
      exact dFdiv_of (by decide) (by decide)
    have b3 : mOp dAdd (mOp dMul (mVar 6) (mVar 6)) (mOp dFdiv (mVar 6) (mC (.int 31))) [some (.val (.list (ns.map .int))), some (.val (.int k)), some (.val (.int many)), some (.val (.int c)), some (.val (.int r')), some (.val (.int t')), some (.val (.int z))] = some (.int (z * z + z / 31)) := by
      rw [op_of b1 b2]
      rfl
    have b4 : mOp dMod (mOp dAdd (mOp dMul (mVar 6) (mVar 6)) (mOp dFdiv (mVar 6) (mC (.int 31)))) (mC (.int 2147483629)) [some (.val (.list (ns.map .int))), some (.val (.int k)), some (.val (.int many)), some (.val (.int c)), some (.val (.int r')), some (.val (.int t')), some (.val (.int z))] = some (.int ((z * z + z / 31) % 2147483629)) := by
      rw [op_of b3 (show mC (.int 2147483629) _ = some (.int 2147483629) from rfl)]
      rfl
    rw [op_of b4 (show mVar 2 _ = some (.int many) from rfl)]
    exact h1
end DD

set_option Elab.async false
set_option linter.all false
set_option maxRecDepth 100000
set_option maxHeartbeats 4000000
/-! records and names: what the mirrors tell -/
namespace DD.R
open PySem PySem.Spec PyProof.Rows L2 DD
def b_is_whole : En → Option Fl :=
  (sRet (mAndV (mUn (dIsi "int") (mVar 0)) (mAndV (mNotV (mUn (dIsi "bool") (mVar 0))) (mChain dLe dLe (mVar 1) (mVar 0) (mVar 2)))))
def m_is_whole (ds : List D) : Option D := mDef 3 b_is_whole ds
def b_is_word : En → Option Fl :=
  (sRet (mCall (lim 3 m_is_whole) (mCons (mVar 0) (mCons (mC (.int 0)) (mCons (mC (.int 9999)) mNil)))))
def m_is_word (ds : List D) : Option D := mDef 1 b_is_word ds
def b_is_name : En → Option Fl :=
  (sSeq (sIf (mOr (mNot (mTru (mUn (dIsi "str") (mVar 0)))) (mNot (mTest (mChain dLe dLe (mC (.int 1)) (mCall dLen (mCons (mVar 0) mNil)) (mC (.int 8))))))
  (sRet (mC (.bool false)))
  sNext)
  (sRet (mCall dAll (mCons (mList (mLc (mIter (mVar 0)) (gSet 1) mYes (mOp dInS (mVar 1) (mC (.str ("abcdefghijklmnopqrstuvwxyz" : Str)))) [1])) mNil))))
def m_is_name (ds : List D) : Option D := mDef 2 b_is_name ds
def b_is_record : En → Option Fl :=
  (sSeq (sIf (mOr (mNot (mTru (mUn (dIsi "tuple") (mVar 0)))) (mNot (mTest (mChain dLe dLe (mC (.int 1)) (mCall dLen (mCons (mVar 0) mNil)) (mC (.int 8))))))
  (sRet (mC (.bool false)))
  sNext)
  (sRet (mCall dAll (mCons (mList (mLc (mIter (mVar 0)) (gSet 1) mYes (mCall (lim 1 m_is_word) (mCons (mVar 1) mNil)) [1])) mNil))))
def m_is_record (ds : List D) : Option D := mDef 2 b_is_record ds
def b_are_records : En → Option Fl :=
  (sSeq (sIf (mOr (mNot (mTru (mUn (dIsi "tuple") (mVar 0)))) (mTest (mOp dGt (mCall dLen (mCons (mVar 0) mNil)) (mC (.int 30)))))
  (sRet (mC (.bool false)))
  sNext)
  (sRet (mCall dAll (mCons (mList (mLc (mIter (mVar 0)) (gSet 1) mYes (mCall (lim 1 m_is_record) (mCons (mVar 1) mNil)) [1])) mNil))))
def m_are_records (ds : List D) : Option D := mDef 2 b_are_records ds

def isWhole (d : D) (lo hi : Int) : Bool := match d with
  | .int i => decide (lo ≤ i) && decide (i ≤ hi)
  | _ => false
def isWord (d : D) : Bool := isWhole d 0 9999
def abc : List Nat := ("abcdefghijklmnopqrstuvwxyz" : Str).cps.toList
def isNam (d : D) : Bool := match d with
  | .str z => (decide ((1 : Int) ≤ z.length) && decide ((z.length : Int) ≤ 8)) && z.cps.toList.all fun c => decide (c ∈ abc)
  | _ => false
def isRec (d : D) : Bool := match d with
  | .tuple ds => (decide ((1 : Int) ≤ ds.length) && decide ((ds.length : Int) ≤ 8)) && ds.all isWord
  | _ => false
def areRecs (d : D) : Bool := match d with
  | .tuple ds => (!decide ((30 : Int) < ds.length)) && ds.all isRec
  | _ => false
/-- no text or row is too long -/
def okLen : D → Prop
  | .tuple ds => ds.length ≤ cap
  | .str z => z.length ≤ cap
  | _ => True
theorem whole_eq (d : D) (lo hi : Int) : m_is_whole [d, .int lo, .int hi] = some (.bool (isWhole d lo hi)) := by
  cases d with
  | int i =>
    refine mDef_rt (ret_of ?_)
    rw [andV_t (show _ = some (PyData.bool true) from rfl), andV_t (show _ = some (PyData.bool true) from rfl)]
    exact chain_of (x := .int lo) (y := .int i) (z := .int hi) rfl rfl rfl rfl rfl
  | _ => rfl
theorem word_eq (d : D) : m_is_word [d] = some (.bool (isWord d)) := by
  refine mDef_rt (ret_of ?_)
  have e : (mCons (mVar 0) (mCons (mC (.int 0)) (mCons (mC (.int 9999)) mNil))) (start0 1 [d]) = some [d, .int 0, .int 9999] := rfl
  rw [call_of e, lim3]
  exact whole_eq d 0 9999
theorem name_eq (d : D) (h : okLen d) : m_is_name [d] = some (.bool (isNam d)) := by
  cases d with
  | str z =>
    have hz : z.length ≤ cap := h
    have c1 : mChain dLe dLe (mC (.int 1)) (mCall dLen (mCons (mVar 0) mNil)) (mC (.int 8)) (start0 2 [.str z]) = some (.bool (decide ((1 : Int) ≤ z.length) && decide ((z.length : Int) ≤ 8))) := by
      refine chain_of (x := .int 1) (y := .int z.length) (z := .int 8) rfl ?_ rfl rfl rfl
      rw [call_of (cons_of (show mVar 0 (start0 2 [.str z]) = some (.str z) from rfl) nil_of), dLen_str hz]
    have c2 : mOr (mNot (mTru (mUn (dIsi "str") (mVar 0)))) (mNot (mTest (mChain dLe dLe (mC (.int 1)) (mCall dLen (mCons (mVar 0) mNil)) (mC (.int 8))))) (start0 2 [.str z]) = some (!(decide ((1 : Int) ≤ z.length) && decide ((z.length : Int) ≤ 8))) := by
      rw [or_f (show mNot (mTru (mUn (dIsi "str") (mVar 0))) (start0 2 [.str z]) = some false from rfl), not_of (test_of c1)]
    show m_is_name [.str z] = some (.bool ((decide ((1 : Int) ≤ z.length) && decide ((z.length : Int) ≤ 8)) && z.cps.toList.all fun c => decide (c ∈ abc)))
    cases hq : (decide ((1 : Int) ≤ z.length) && decide ((z.length : Int) ≤ 8)) with
    | false =>
      rw [hq] at c2
      refine mDef_rt ?_
      unfold b_is_name
      rw [seq_rt (d := .bool false) (by rw [if_t c2]; rfl)]
      rfl
    | true =>
      rw [hq] at c2
      refine mDef_rt ?_
      unfold b_is_name
      rw [seq_nx (by rw [if_f c2]; rfl)]
      refine ret_of ?_
      have hi : mIter (mVar 0) (start0 2 [.str z]) = some (z.cps.toList.map fun c => .str ⟨#[c]⟩) := rfl
      have hlc : mLc (mIter (mVar 0)) (gSet 1) mYes (mOp dInS (mVar 1) (mC (.str ("abcdefghijklmnopqrstuvwxyz" : Str)))) [1] (start0 2 [.str z]) =
          some ((z.cps.toList.map fun c => PyData.str ⟨#[c]⟩).map fun d => .bool (match d with | .str w => w.cps.toList.all fun c => decide (c ∈ abc) | _ => false)) := by
        refine lc_of hi (by rw [List.length_map, Array.length_toList]; exact hz) fun d hd => ?_
        obtain ⟨c, _, rfl⟩ := List.mem_map.mp hd
        refine ⟨_, rfl, ?_⟩
        show some (PyData.bool (decide (c ∈ abc))) = some (PyData.bool ([c].all fun c => decide (c ∈ abc)))
        simp
      rw [call_of (cons_of (list_of hlc) nil_of)]
      rw [dAll_map]
      rw [List.all_map, Bool.true_and]
      congr 2
      simp [Function.comp_def]
  | _ => rfl
theorem rec_eq (d : D) (h : okLen d) : m_is_record [d] = some (.bool (isRec d)) := by
  cases d with
  | tuple ds =>
    have hz : ds.length ≤ cap := h
    have c1 : mChain dLe dLe (mC (.int 1)) (mCall dLen (mCons (mVar 0) mNil)) (mC (.int 8)) (start0 2 [.tuple ds]) = some (.bool (decide ((1 : Int) ≤ ds.length) && decide ((ds.length : Int) ≤ 8))) := by
      refine chain_of (x := .int 1) (y := .int ds.length) (z := .int 8) rfl ?_ rfl rfl rfl
      rw [call_of (cons_of (show mVar 0 (start0 2 [.tuple ds]) = some (.tuple ds) from rfl) nil_of), dLen_tup hz]
    have c2 : mOr (mNot (mTru (mUn (dIsi "tuple") (mVar 0)))) (mNot (mTest (mChain dLe dLe (mC (.int 1)) (mCall dLen (mCons (mVar 0) mNil)) (mC (.int 8))))) (start0 2 [.tuple ds]) = some (!(decide ((1 : Int) ≤ ds.length) && decide ((ds.length : Int) ≤ 8))) := by
      rw [or_f (show mNot (mTru (mUn (dIsi "tuple") (mVar 0))) (start0 2 [.tuple ds]) = some false from rfl), not_of (test_of c1)]
    show m_is_record [.tuple ds] = some (.bool ((decide ((1 : Int) ≤ ds.length) && decide ((ds.length : Int) ≤ 8)) && ds.all isWord))
    cases hq : (decide ((1 : Int) ≤ ds.length) && decide ((ds.length : Int) ≤ 8)) with
    | false =>
      rw [hq] at c2
      refine mDef_rt ?_
      unfold b_is_record
      rw [seq_rt (d := .bool false) (by rw [if_t c2]; rfl)]
      rfl
    | true =>
      rw [hq] at c2
      refine mDef_rt ?_
      unfold b_is_record
      rw [seq_nx (by rw [if_f c2]; rfl)]
      refine ret_of ?_
      have hlc : mLc (mIter (mVar 0)) (gSet 1) mYes (mCall (lim 1 m_is_word) (mCons (mVar 1) mNil)) [1] (start0 2 [.tuple ds]) = some (ds.map fun d => .bool (isWord d)) := by
        refine lc_of rfl hz fun d hd => ⟨_, rfl, ?_⟩
        rw [call_of (cons_of (show mVar 1 _ = some d from rfl) nil_of), lim1]
        exact word_eq d
      rw [call_of (cons_of (list_of hlc) nil_of), dAll_map, Bool.true_and]
  | _ => rfl
theorem recs_eq (d : D) (h : okLen d) (k : ∀ ds, d = .tuple ds → ∀ x ∈ ds, okLen x) : m_are_records [d] = some (.bool (areRecs d)) := by
  cases d with
  | tuple ds =>
    have hz : ds.length ≤ cap := h
    have hk := k ds rfl
    have c1 : mOp dGt (mCall dLen (mCons (mVar 0) mNil)) (mC (.int 30)) (start0 2 [.tuple ds]) = some (.bool (decide ((30 : Int) < ds.length))) := by
      have e1 : mCall dLen (mCons (mVar 0) mNil) (start0 2 [.tuple ds]) = some (.int ds.length) := by
        rw [call_of (cons_of (show mVar 0 (start0 2 [.tuple ds]) = some (.tuple ds) from rfl) nil_of), dLen_tup hz]
      rw [op_of e1 (show mC (.int 30) _ = some (.int 30) from rfl)]
      rfl
    have c2 : mOr (mNot (mTru (mUn (dIsi "tuple") (mVar 0)))) (mTest (mOp dGt (mCall dLen (mCons (mVar 0) mNil)) (mC (.int 30)))) (start0 2 [.tuple ds]) = some (decide ((30 : Int) < ds.length)) := by
      rw [or_f (show mNot (mTru (mUn (dIsi "tuple") (mVar 0))) (start0 2 [.tuple ds]) = some false from rfl), test_of c1]
    show m_are_records [.tuple ds] = some (.bool ((!decide ((30 : Int) < ds.length)) && ds.all isRec))
    cases hq : decide ((30 : Int) < ds.length) with
    | true =>
      rw [hq] at c2
      refine mDef_rt ?_
      unfold b_are_records
      rw [seq_rt (d := .bool false) (by rw [if_t c2]; rfl)]
      rfl
    | false =>
      rw [hq] at c2
      refine mDef_rt ?_
      unfold b_are_records
      rw [seq_nx (by rw [if_f c2]; rfl)]
      refine ret_of ?_
      have hlc : mLc (mIter (mVar 0)) (gSet 1) mYes (mCall (lim 1 m_is_record) (mCons (mVar 1) mNil)) [1] (start0 2 [.tuple ds]) = some (ds.map fun d => .bool (isRec d)) := by
        refine lc_of rfl hz fun d hd => ⟨_, rfl, ?_⟩
        rw [call_of (cons_of (show mVar 1 _ = some d from rfl) nil_of), lim1]
        exact rec_eq d (hk d hd)
      rw [call_of (cons_of (list_of hlc) nil_of), dAll_map]
      rfl
  | _ => rfl
end DD.R

set_option Elab.async false
set_option linter.all false
set_option maxRecDepth 100000
set_option maxHeartbeats 4000000
/-! reckoning with mirrors by simp -/
namespace DD
local instance : TabQ := ⟨[]⟩
local instance : ExQ := ⟨0, 0⟩
open PySem PySem.Spec PyProof.Rows L2
theorem coll_ex {g : D → En → Option En} {e : En → Option D} {ρ : En} {P : D → Prop} : ∀ {ds : List D}, (∀ d ∈ ds, ∃ ρ1 x, g d ρ = some ρ1 ∧ e ρ1 = some x ∧ P x) → ∃ xs, coll g mYes e ρ ds = some xs ∧ xs.length = ds.length ∧ ∀ x ∈ xs, P x
  | [], _ => ⟨[], rfl, rfl, fun x h => nomatch h⟩
  | d :: ds, h => by
    obtain ⟨ρ1, x, h1, h2, h3⟩ := h d List.mem_cons_self
    obtain ⟨xs, i1, i2, i3⟩ := coll_ex (g := g) (e := e) (ρ := ρ) (P := P) (ds := ds) fun y hy => h y (List.mem_cons_of_mem _ hy)
    refine ⟨x :: xs, ?_, by simp [i2], fun y hy => ?_⟩
    · have s1 : coll g mYes e ρ (d :: ds) = (g d ρ).bind fun ρ1 => (mYes ρ1).bind fun b => if b = true then (e ρ1).bind fun x => (coll g mYes e ρ ds).map fun r => x :: r else coll g mYes e ρ ds := rfl
      rw [s1, h1]
      show ((e ρ1).bind fun x => (coll g mYes e ρ ds).map fun r => x :: r) = _
      rw [h2, i1]
      rfl
    · rcases List.mem_cons.mp hy with rfl | hy
      · exact h3
      · exact i3 y hy
theorem coll_if {g : D → En → Option En} {c : En → Option Bool} {e : En → Option D} {ρ : En} {p : D → Bool} {f : D → D} : ∀ {ds : List D}, (∀ d ∈ ds, ∃ ρ1, g d ρ = some ρ1 ∧ c ρ1 = some (p d) ∧ (p d = true → e ρ1 = some (f d))) → coll g c e ρ ds = some ((ds.filter p).map f)
  | [], _ => rfl
  | d :: ds, h => by
    obtain ⟨ρ1, h1, h2, h3⟩ := h d List.mem_cons_self
    have ih := coll_if (g := g) (c := c) (e := e) (ρ := ρ) (p := p) (f := f) (ds := ds) fun y hy => h y (List.mem_cons_of_mem _ hy)
    have s1 : coll g c e ρ (d :: ds) = (g d ρ).bind fun ρ1 => (c ρ1).bind fun b => if b = true then (e ρ1).bind fun x => (coll g c e ρ ds).map fun r => x :: r else coll g c e ρ ds := rfl
    rw [s1, h1]
    show ((c ρ1).bind fun b => _) = _
    rw [h2]
    show (if p d = true then (e ρ1).bind fun x => (coll g c e ρ ds).map fun r => x :: r else coll g c e ρ ds) = _
    cases hp : p d with
    | true =>
      rw [if_pos rfl, h3 hp, ih, List.filter_cons_of_pos hp]
      rfl
    | false =>
      rw [if_neg Bool.false_ne_true, ih, List.filter_cons_of_neg (by rw [hp]; exact Bool.false_ne_true)]
theorem lc_if {it : En → Option (List D)} {g : D → En → Option En} {c : En → Option Bool} {e : En → Option D} {ρ : En} {vs : List Nat} {ds : List D} {p : D → Bool} {f : D → D} (hi : it ρ = some ds) (hz : ds.length ≤ cap) (h : ∀ d ∈ ds, ∃ ρ1, g d (wipeM ρ vs) = some ρ1 ∧ c ρ1 = some (p d) ∧ (p d = true → e ρ1 = some (f d))) :
    mLc it g c e vs ρ = some ((ds.filter p).map f) := by
  unfold mLc
  rw [hi]
  show (if ds.length ≤ cap then _ else _) = _
  rw [if_pos hz]
  exact coll_if h
/-- texts that pass a test -/
theorem coll_strs {g : D → En → Option En} {c : En → Option Bool} {e : En → Option D} {ρ : En} {p : Str → Bool} : ∀ {l : List Str}, (∀ n ∈ l, ∃ ρ1, g (.str n) ρ = some ρ1 ∧ c ρ1 = some (p n) ∧ e ρ1 = some (.str n)) → coll g c e ρ (l.map .str) = some ((l.filter p).map .str)
  | [], _ => rfl
  | n :: r, h => by
    obtain ⟨ρ1, h1, h2, h3⟩ := h n List.mem_cons_self
    have ih := coll_strs (g := g) (c := c) (e := e) (ρ := ρ) (p := p) (l := r) fun y hy => h y (List.mem_cons_of_mem _ hy)
    have s1 : coll g c e ρ ((n :: r).map .str) = (g (.str n) ρ).bind fun ρ1 => (c ρ1).bind fun b => if b = true then (e ρ1).bind fun x => (coll g c e ρ (r.map .str)).map fun r => x :: r else coll g c e ρ (r.map .str) := rfl
    rw [s1, h1]
    show ((c ρ1).bind fun b => _) = _
    rw [h2]
    show (if p n = true then (e ρ1).bind fun x => (coll g c e ρ (r.map .str)).map fun r => x :: r else coll g c e ρ (r.map .str)) = _
    cases hp : p n with
    | true =>
      rw [if_pos rfl, h3, ih, List.filter_cons_of_pos hp]
      rfl
    | false =>
      rw [if_neg Bool.false_ne_true, ih, List.filter_cons_of_neg (by rw [hp]; exact Bool.false_ne_true)]
theorem lc_strs {it : En → Option (List D)} {g : D → En → Option En} {c : En → Option Bool} {e : En → Option D} {ρ : En} {vs : List Nat} {p : Str → Bool} {l : List Str} (hi : it ρ = some (l.map .str)) (hz : l.length ≤ cap) (h : ∀ n ∈ l, ∃ ρ1, g (.str n) (wipeM ρ vs) = some ρ1 ∧ c ρ1 = some (p n) ∧ e ρ1 = some (.str n)) :
    mLc it g c e vs ρ = some ((l.filter p).map .str) := by
  unfold mLc
  rw [hi]
  show (if (l.map PyData.str).length ≤ cap then _ else _) = _
  rw [if_pos (by rw [List.length_map]; exact hz)]
  exact coll_strs h
theorem shaped_str {a : Str} (h : PyData.strOk a = true) : SeqAt.shaped (.str a) = true := by simp [SeqAt.shaped, PyData.canLay0, PyData.depth, h]
theorem dEq_str {a b : Str} (h : PyData.strOk a = true) (k : PyData.strOk b = true) : dEq (.str a) (.str b) = some (.bool (decide (a = b))) := by rw [dEq_of (shaped_str h) (shaped_str k), eqv_str]
theorem dNe_str {a b : Str} (h : PyData.strOk a = true) (k : PyData.strOk b = true) : dNe (.str a) (.str b) = some (.bool (!decide (a = b))) := by rw [dNe_of (shaped_str h) (shaped_str k), eqv_str]
theorem sized_le {ds : List D} (h : ds.length ≤ cap) : sized ds = some ds := if_pos h
theorem cap_s {n : Nat} (h : n ≤ 1000) : n ≤ cap := Nat.le_trans h (by decide)
theorem loop_cons {g : D → En → Option En} {b : En → Option Fl} {d : D} {ds : List D} {ρ ρ1 ρ2 : En} (h1 : g d ρ = some ρ1) (h2 : b ρ1 = some (.nx ρ2)) : loop g b (d :: ds) ρ = loop g b ds ρ2 := by
  have : loop g b (d :: ds) ρ = (g d ρ).bind fun ρ1 => (b ρ1).bind fun f => match f with
    | .nx ρ2 => loop g b ds ρ2
    | .ct ρ2 => loop g b ds ρ2
    | .bk ρ2 => some (.nx ρ2)
    | .rt d => some (.rt d) := rfl
  rw [this, h1]
  show ((b ρ1).bind fun f => _) = _
  rw [h2]
  rfl
/-! what can be compared -/
def Lay (k : Nat) (d : D) : Prop := d.canLay0 = true ∧ d.depth ≤ k
theorem Lay.mono {k j : Nat} {d : D} (h : Lay k d) (l : k ≤ j) : Lay j d := ⟨h.1, Nat.le_trans h.2 l⟩
theorem lay_str {x : Str} (h : PyData.strOk x = true) : Lay 0 (.str x) := ⟨by simp [PyData.canLay0, h], by simp [PyData.depth]⟩
theorem lay_int {i : Int} : Lay 0 (.int i) := ⟨by simp [PyData.canLay0], by simp [PyData.depth]⟩
theorem lay_none : Lay 0 .none := ⟨by simp [PyData.canLay0], by simp [PyData.depth]⟩
theorem lay_bool {b : Bool} : Lay 0 (.bool b) := ⟨by simp [PyData.canLay0], by simp [PyData.depth]⟩
theorem lay_all {k : Nat} : ∀ {ds : List D}, (∀ d ∈ ds, Lay k d) → PyData.canLayAll0 ds = true ∧ PyData.depthAll ds ≤ k
  | [], _ => ⟨by simp [PyData.canLayAll0], by simp [PyData.depthAll]⟩
  | d :: ds, h => by
    obtain ⟨i1, i2⟩ := lay_all (ds := ds) fun x hx => h x (List.mem_cons_of_mem _ hx)
    obtain ⟨h1, h2⟩ := h d List.mem_cons_self
    refine ⟨by simp [PyData.canLayAll0, h1, i1], ?_⟩
    have : PyData.depthAll (d :: ds) = max d.depth (PyData.depthAll ds) := by simp [PyData.depthAll]
    rw [this]; omega
theorem lay_tup {k : Nat} {ds : List D} (h : ∀ d ∈ ds, Lay k d) : Lay (k + 1) (.tuple ds) := by
  obtain ⟨i1, i2⟩ := lay_all h
  exact ⟨by simp [PyData.canLay0, i1], by simp [PyData.depth]; omega⟩
theorem lay_list {k : Nat} {ds : List D} (h : ∀ d ∈ ds, Lay k d) : Lay (k + 1) (.list ds) := by
  obtain ⟨i1, i2⟩ := lay_all h
  exact ⟨by simp [PyData.canLay0, i1], by simp [PyData.depth]; omega⟩
theorem Lay.shaped {k : Nat} {d : D} (h : Lay k d) (l : k ≤ 64) : SeqAt.shaped d = true := by
  unfold SeqAt.shaped
  rw [h.1, decide_eq_true (Nat.le_trans h.2 l)]
  rfl
theorem dNe_self {k : Nat} {d : D} (h : Lay k d) (l : k ≤ 64) : dNe d d = some (.bool false) := by
  rw [dNe_of (h.shaped l) (h.shaped l), SeqAt.eqv_refl _ h.1]
  rfl
theorem lay_strs_t {l : List Str} (h : ∀ x ∈ l, PyData.strOk x = true) : Lay 1 (.tuple (l.map .str)) := lay_tup fun d hd => by
  obtain ⟨x, hx, rfl⟩ := List.mem_map.mp hd
  exact lay_str (h x hx)
theorem lay_strs_l {l : List Str} (h : ∀ x ∈ l, PyData.strOk x = true) : Lay 1 (.list (l.map .str)) := lay_list fun d hd => by
  obtain ⟨x, hx, rfl⟩ := List.mem_map.mp hd
  exact lay_str (h x hx)
theorem eqv_lnil {l : List D} : PyData.eqv (.list l) (.list []) = l.isEmpty := by cases l <;> simp [PyData.eqv, PyData.eqvAll]
/-- a row of texts against [] -/
theorem dNe_lnil {l : List Str} (h : ∀ x ∈ l, PyData.strOk x = true) : dNe (.list (l.map .str)) (.list []) = some (.bool (!l.isEmpty)) := by
  rw [dNe_of ((lay_strs_l h).shaped (by decide)) ((lay_list (k := 0) (ds := []) fun d hd => nomatch hd).shaped (by decide)), eqv_lnil]
  cases l <;> rfl
end DD

set_option Elab.async false
set_option linter.all false
set_option maxRecDepth 100000
set_option maxHeartbeats 4000000
namespace DD
variable [TabQ] [ExQ]
open PySem PySem.Spec PyProof.Rows L2
def topS (i : Nat) : Stmt := PySem.Challenge.pw_batchyard_k06_minds_answered.main.body.getD i (.Pass ⟨0, 0, 0, 0⟩)
abbrev s_is_whole : Stmt := topS 27
abbrev N_is_whole : List Str := ["thing", "low", "high"]
theorem sc_is_whole : FnScope N_is_whole ["thing", "low", "high"] (defScope s_is_whole) := ⟨rfl, rfl, rfl, by decide +kernel, rfl, by decide +kernel, by decide +kernel⟩
abbrev s_is_word : Stmt := topS 28
abbrev N_is_word : List Str := ["thing"]
theorem sc_is_word : FnScope N_is_word ["thing"] (defScope s_is_word) := ⟨rfl, rfl, rfl, by decide +kernel, rfl, by decide +kernel, by decide +kernel⟩
abbrev s_is_record : Stmt := topS 29
abbrev N_is_record : List Str := ["thing", "part"]
theorem sc_is_record : FnScope N_is_record ["thing"] (defScope s_is_record) := ⟨rfl, rfl, rfl, by decide +kernel, rfl, by decide +kernel, by decide +kernel⟩
abbrev s_is_code : Stmt := topS 35
abbrev N_is_code : List Str := ["thing", "part"]
theorem sc_is_code : FnScope N_is_code ["thing"] (defScope s_is_code) := ⟨rfl, rfl, rfl, by decide +kernel, rfl, by decide +kernel, by decide +kernel⟩
abbrev s_demand_code : Stmt := topS 36
abbrev N_demand_code : List Str := ["thing"]
theorem sc_demand_code : FnScope N_demand_code ["thing"] (defScope s_demand_code) := ⟨rfl, rfl, rfl, by decide +kernel, rfl, by decide +kernel, by decide +kernel⟩
abbrev s__is_step : Stmt := topS 37
abbrev N__is_step : List Str := ["thing", "many", "word", "parts", "kinds", "part", "kind"]
theorem sc__is_step : FnScope N__is_step ["thing", "many"] (defScope s__is_step) := ⟨rfl, rfl, rfl, by decide +kernel, rfl, by decide +kernel, by decide +kernel⟩
abbrev s__is_part : Stmt := topS 38
abbrev N__is_part : List Str := ["thing", "kind", "many"]
theorem sc__is_part : FnScope N__is_part ["thing", "kind", "many"] (defScope s__is_part) := ⟨rfl, rfl, rfl, by decide +kernel, rfl, by decide +kernel, by decide +kernel⟩
abbrev s__is_row : Stmt := topS 39
abbrev N__is_row : List Str := ["thing", "part"]
theorem sc__is_row : FnScope N__is_row ["thing"] (defScope s__is_row) := ⟨rfl, rfl, rfl, by decide +kernel, rfl, by decide +kernel, by decide +kernel⟩
abbrev s_begun : Stmt := topS 50
abbrev N_begun : List Str := ["code", "parameters", "zeros"]
theorem sc_begun : FnScope N_begun ["code", "parameters"] (defScope s_begun) := ⟨rfl, rfl, rfl, by decide +kernel, rfl, by decide +kernel, by decide +kernel⟩
abbrev s_gone : Stmt := topS 51
abbrev N_gone : List Str := ["mind", "answer"]
theorem sc_gone : FnScope N_gone ["mind", "answer"] (defScope s_gone) := ⟨rfl, rfl, rfl, by decide +kernel, rfl, by decide +kernel, by decide +kernel⟩
abbrev s__answered : Stmt := topS 52
abbrev N__answered : List Str := ["mind", "answer", "waits"]
theorem sc__answered : FnScope N__answered ["mind", "answer"] (defScope s__answered) := ⟨rfl, rfl, rfl, by decide +kernel, rfl, by decide +kernel, by decide +kernel⟩
abbrev s__fits : Stmt := topS 53
abbrev N__fits : List Str := ["waits", "answer"]
theorem sc__fits : FnScope N__fits ["waits", "answer"] (defScope s__fits) := ⟨rfl, rfl, rfl, by decide +kernel, rfl, by decide +kernel, by decide +kernel⟩
abbrev s__done : Stmt := topS 54
abbrev N__done : List Str := ["mind", "step", "word"]
theorem sc__done : FnScope N__done ["mind", "step"] (defScope s__done) := ⟨rfl, rfl, rfl, by decide +kernel, rfl, by decide +kernel, by decide +kernel⟩
abbrev s__worth : Stmt := topS 55
abbrev N__worth : List Str := ["mind", "step", "word", "registers", "reckoning"]
theorem sc__worth : FnScope N__worth ["mind", "step"] (defScope s__worth) := ⟨rfl, rfl, rfl, by decide +kernel, rfl, by decide +kernel, by decide +kernel⟩
abbrev s__field_of : Stmt := topS 56
abbrev N__field_of : List Str := ["record", "at"]
theorem sc__field_of : FnScope N__field_of ["record", "at"] (defScope s__field_of) := ⟨rfl, rfl, rfl, by decide +kernel, rfl, by decide +kernel, by decide +kernel⟩
abbrev s__next_place : Stmt := topS 57
abbrev N__next_place : List Str := ["mind", "step", "word", "goes"]
theorem sc__next_place : FnScope N__next_place ["mind", "step"] (defScope s__next_place) := ⟨rfl, rfl, rfl, by decide +kernel, rfl, by decide +kernel, by decide +kernel⟩
abbrev s__question : Stmt := topS 58
abbrev N__question : List Str := ["mind", "step", "word", "registers"]
theorem sc__question : FnScope N__question ["mind", "step"] (defScope s__question) := ⟨rfl, rfl, rfl, by decide +kernel, rfl, by decide +kernel, by decide +kernel⟩
abbrev s__row_of : Stmt := topS 59
abbrev N__row_of : List Str := ["registers", "row", "at"]
theorem sc__row_of : FnScope N__row_of ["registers", "row"] (defScope s__row_of) := ⟨rfl, rfl, rfl, by decide +kernel, rfl, by decide +kernel, by decide +kernel⟩
abbrev s__asking : Stmt := topS 60
abbrev N__asking : List Str := ["mind", "asked"]
theorem sc__asking : FnScope N__asking ["mind", "asked"] (defScope s__asking) := ⟨rfl, rfl, rfl, by decide +kernel, rfl, by decide +kernel, by decide +kernel⟩
abbrev s__further : Stmt := topS 61
abbrev N__further : List Str := ["mind"]
theorem sc__further : FnScope N__further ["mind"] (defScope s__further) := ⟨rfl, rfl, rfl, by decide +kernel, rfl, by decide +kernel, by decide +kernel⟩
abbrev s__with_record : Stmt := topS 62
abbrev N__with_record : List Str := ["mind", "card", "record", "told"]
theorem sc__with_record : FnScope N__with_record ["mind", "card", "record"] (defScope s__with_record) := ⟨rfl, rfl, rfl, by decide +kernel, rfl, by decide +kernel, by decide +kernel⟩
abbrev s__with_register : Stmt := topS 63
abbrev N__with_register : List Str := ["mind", "at", "word"]
theorem sc__with_register : FnScope N__with_register ["mind", "at", "word"] (defScope s__with_register) := ⟨rfl, rfl, rfl, by decide +kernel, rfl, by decide +kernel, by decide +kernel⟩
abbrev s__with_part : Stmt := topS 64
abbrev N__with_part : List Str := ["row", "at", "part"]
theorem sc__with_part : FnScope N__with_part ["row", "at", "part"] (defScope s__with_part) := ⟨rfl, rfl, rfl, by decide +kernel, rfl, by decide +kernel, by decide +kernel⟩
abbrev s__sum_of : Stmt := topS 65
abbrev N__sum_of : List Str := ["left", "right"]
theorem sc__sum_of : FnScope N__sum_of ["left", "right"] (defScope s__sum_of) := ⟨rfl, rfl, rfl, by decide +kernel, rfl, by decide +kernel, by decide +kernel⟩
abbrev s__rest_of : Stmt := topS 66
abbrev N__rest_of : List Str := ["left", "right"]
theorem sc__rest_of : FnScope N__rest_of ["left", "right"] (defScope s__rest_of) := ⟨rfl, rfl, rfl, by decide +kernel, rfl, by decide +kernel, by decide +kernel⟩
abbrev s__product_of : Stmt := topS 67
abbrev N__product_of : List Str := ["left", "right"]
theorem sc__product_of : FnScope N__product_of ["left", "right"] (defScope s__product_of) := ⟨rfl, rfl, rfl, by decide +kernel, rfl, by decide +kernel, by decide +kernel⟩
abbrev s__quotient_of : Stmt := topS 68
abbrev N__quotient_of : List Str := ["left", "right"]
theorem sc__quotient_of : FnScope N__quotient_of ["left", "right"] (defScope s__quotient_of) := ⟨rfl, rfl, rfl, by decide +kernel, rfl, by decide +kernel, by decide +kernel⟩
abbrev s__remainder_of : Stmt := topS 69
abbrev N__remainder_of : List Str := ["left", "right"]
theorem sc__remainder_of : FnScope N__remainder_of ["left", "right"] (defScope s__remainder_of) := ⟨rfl, rfl, rfl, by decide +kernel, rfl, by decide +kernel, by decide +kernel⟩
abbrev s__is_less : Stmt := topS 70
abbrev N__is_less : List Str := ["left", "right"]
theorem sc__is_less : FnScope N__is_less ["left", "right"] (defScope s__is_less) := ⟨rfl, rfl, rfl, by decide +kernel, rfl, by decide +kernel, by decide +kernel⟩
abbrev s__is_same : Stmt := topS 71
abbrev N__is_same : List Str := ["left", "right"]
theorem sc__is_same : FnScope N__is_same ["left", "right"] (defScope s__is_same) := ⟨rfl, rfl, rfl, by decide +kernel, rfl, by decide +kernel, by decide +kernel⟩
abbrev s__law_pick : Stmt := topS 74
abbrev N__law_pick : List Str := ["_law_script", "_law_k", "_law_many", "_law_cell", "_law_rest", "_law_turn", "_law_drawn"]
theorem sc__law_pick : FnScope N__law_pick ["_law_script", "_law_k", "_law_many"] (defScope s__law_pick) := ⟨rfl, rfl, rfl, by decide +kernel, rfl, by decide +kernel, by decide +kernel⟩
abbrev s__law_class : Stmt := topS 75
abbrev N__law_class : List Str := ["_law_e", "_law_kinds", "_law_some"]
theorem sc__law_class : FnScope N__law_class ["_law_e"] (defScope s__law_class) := ⟨rfl, rfl, rfl, by decide +kernel, rfl, by decide +kernel, by decide +kernel⟩
abbrev s__law_told : Stmt := topS 76
abbrev N__law_told : List Str := ["_law_deed", "_law_e"]
theorem sc__law_told : FnScope N__law_told ["_law_deed"] (defScope s__law_told) := ⟨rfl, rfl, rfl, by decide +kernel, rfl, by decide +kernel, by decide +kernel⟩
abbrev s_law : Stmt := topS 77
abbrev N_law : List Str := ["_law_script", "_law_n", "_law_m", "_law_code", "_law_ask", "_law_asks", "_law_fit", "_law_due", "_law_told_here", "_law_bad", "_law_old", "_law_answer", "_law_mind"]
theorem sc_law : FnScope N_law ["_law_script"] (defScope s_law) := ⟨rfl, rfl, rfl, by decide +kernel, rfl, by decide +kernel, by decide +kernel⟩
def kv_PARTS : List (Str × D) := [("add", (.tuple [(.str ("r" : Str)), (.str ("r" : Str)), (.str ("r" : Str))])), ("copy", (.tuple [(.str ("r" : Str)), (.str ("r" : Str))])), ("div", (.tuple [(.str ("r" : Str)), (.str ("r" : Str)), (.str ("r" : Str))])), ("end", (.tuple [(.str ("r" : Str))])), ("field", (.tuple [(.str ("r" : Str)), (.str ("f" : Str)), (.str ("k" : Str))])), ("go", (.tuple [(.str ("p" : Str))])), ("if", (.tuple [(.str ("r" : Str)), (.str ("p" : Str))])), ("less", (.tuple [(.str ("r" : Str)), (.str ("r" : Str)), (.str ("r" : Str))])), ("line", (.tuple [(.str ("row" : Str))])), ("mark", (.tuple [])), ("mod", (.tuple [(.str ("r" : Str)), (.str ("r" : Str)), (.str ("r" : Str))])), ("mul", (.tuple [(.str ("r" : Str)), (.str ("r" : Str)), (.str ("r" : Str))])), ("over", (.tuple [(.str ("f" : Str)), (.str ("p" : Str))])), ("put", (.tuple [(.str ("f" : Str)), (.str ("row" : Str))])), ("same", (.tuple [(.str ("r" : Str)), (.str ("r" : Str)), (.str ("r" : Str))])), ("set", (.tuple [(.str ("r" : Str)), (.str ("n" : Str))])), ("sub", (.tuple [(.str ("r" : Str)), (.str ("r" : Str)), (.str ("r" : Str))])), ("take", (.tuple [(.str ("f" : Str))]))]
def kv_GREATEST : List (Str × D) := [("r", (.int 7)), ("f", (.int 5)), ("k", (.int 7))]
def kin_Busy : Nat → Bool
  | 0 => false
  | _ => false
def kin_IsDown : Nat → Bool
  | 0 => false
  | _ => false
def kin_IsUp : Nat → Bool
  | 0 => false
  | _ => false
def kin_NoAccount : Nat → Bool
  | 0 => false
  | _ => false
def kin_NoAnswer : Nat → Bool
  | 0 => true
  | _ => false
def kin_NoChoices : Nat → Bool
  | 0 => false
  | _ => false
def kin_NoCode : Nat → Bool
  | 0 => false
  | _ => true
def kin_NoDeck : Nat → Bool
  | 0 => false
  | _ => false
def kin_NoDrive : Nat → Bool
  | 0 => false
  | _ => false
def kin_NoEvents : Nat → Bool
  | 0 => false
  | _ => false
def kin_NoJob : Nat → Bool
  | 0 => false
  | _ => false
def kin_NoName : Nat → Bool
  | 0 => false
  | _ => false
def kin_NoNumber : Nat → Bool
  | 0 => false
  | _ => false
def kin_NoPrinter : Nat → Bool
  | 0 => false
  | _ => false
def kin_NoRecords : Nat → Bool
  | 0 => false
  | _ => false
def kin_NoRoom : Nat → Bool
  | 0 => false
  | _ => false
def kin_NoSlot : Nat → Bool
  | 0 => false
  | _ => false
def kin_NoText : Nat → Bool
  | 0 => false
  | _ => false
def kin_NoValue : Nat → Bool
  | 0 => false
  | _ => false
def kin_NoVolume : Nat → Bool
  | 0 => false
  | _ => false
def kin_NoWords : Nat → Bool
  | 0 => false
  | _ => false
def kin_TooDear : Nat → Bool
  | 0 => false
  | _ => false
def kin_ValueError : Nat → Bool
  | 0 => true
  | _ => true
/-! ### mirrors -/
def b_is_whole : En → Option Fl :=
  (sRet (mAndV (mUn (dIsi "int") (mVar 0)) (mAndV (mNotV (mUn (dIsi "bool") (mVar 0))) (mChain dLe dLe (mVar 1) (mVar 0) (mVar 2)))))
def m_is_whole (ds : List D) : Option D := mDef 3 b_is_whole ds
def b_is_word : En → Option Fl :=
  (sRet (mCall (lim 3 m_is_whole) (mCons (mVar 0) (mCons (mC (.int 0)) (mCons (mC (.int (9999))) mNil)))))
def m_is_word (ds : List D) : Option D := mDef 1 b_is_word ds
def b_is_record : En → Option Fl :=
  (sSeq (sIf (mOr (mNot (mTru (mUn (dIsi "tuple") (mVar 0)))) (mNot (mTest (mChain dLe dLe (mC (.int 1)) (mCall dLen (mCons (mVar 0) mNil)) (mC (.int (8)))))))
  (sRet (mC (.bool false)))
  sNext)
  (sRet (mCall dAll (mCons (mList (mLc (mIter (mVar 0)) (gSet 1) mYes (mCall (lim 1 m_is_word) (mCons (mVar 1) mNil)) [1])) mNil))))
def m_is_record (ds : List D) : Option D := mDef 2 b_is_record ds
def b__is_row : En → Option Fl :=
  (sSeq (sIf (mOr (mNot (mTru (mUn (dIsi "tuple") (mVar 0)))) (mNot (mTest (mChain dLe dLe (mC (.int 1)) (mCall dLen (mCons (mVar 0) mNil)) (mC (.int (6)))))))
  (sRet (mC (.bool false)))
  sNext)
  (sRet (mCall dAll (mCons (mList (mLc (mIter (mVar 0)) (gSet 1) mYes (mCall (lim 3 m_is_whole) (mCons (mVar 1) (mCons (mC (.int 0)) (mCons (mUn (dGetK kv_GREATEST) (mC (.str ("r" : Str)))) mNil)))) [1])) mNil))))
def m__is_row (ds : List D) : Option D := mDef 2 b__is_row ds
def b__is_part : En → Option Fl :=
  (sSeq (sIf (mTest (mOp dEq (mVar 1) (mC (.str ("row" : Str)))))
  (sRet (mCall (lim 1 m__is_row) (mCons (mVar 0) mNil)))
  sNext)
  (sSeq (sIf (mTest (mOp dEq (mVar 1) (mC (.str ("n" : Str)))))
  (sRet (mCall (lim 1 m_is_word) (mCons (mVar 0) mNil)))
  sNext)
  (sSeq (sIf (mTest (mOp dEq (mVar 1) (mC (.str ("p" : Str)))))
  (sRet (mCall (lim 3 m_is_whole) (mCons (mVar 0) (mCons (mC (.int 0)) (mCons (mOp dSub (mVar 2) (mC (.int 1))) mNil)))))
  sNext)
  (sRet (mCall (lim 3 m_is_whole) (mCons (mVar 0) (mCons (mC (.int 0)) (mCons (mUn (dGetK kv_GREATEST) (mVar 1)) mNil))))))))
def m__is_part (ds : List D) : Option D := mDef 3 b__is_part ds
def b__is_step : En → Option Fl :=
  (sSeq (sIf (mOr (mNot (mTru (mUn (dIsi "tuple") (mVar 0)))) (mNot (mTru (mVar 0))))
  (sRet (mC (.bool false)))
  sNext)
  (sSeq (sAsg (mVar 0) (gHeadRest (gSet 2) (gSet 3)))
  (sSeq (sIf (mOr (mNot (mTru (mUn (dIsi "str") (mVar 2)))) (mTest (mUn (dNotInK kv_PARTS) (mVar 2))))
  (sRet (mC (.bool false)))
  sNext)
  (sSeq (sAsg (mUn (dGetK kv_PARTS) (mVar 2)) (gSet 4))
  (sSeq (sIf (mTest (mOp dNe (mCall dLen (mCons (mVar 3) mNil)) (mCall dLen (mCons (mVar 4) mNil))))
  (sRet (mC (.bool false)))
  sNext)
  (sRet (mCall dAll (mCons (mList (mLc (mZip (mCons (mVar 3) (mCons (mVar 4) mNil))) (gTupM 2 (gConsM (gSet 5) (gConsM (gSet 6) gNilM))) mYes (mCall (lim 3 m__is_part) (mCons (mVar 5) (mCons (mVar 6) (mCons (mVar 1) mNil)))) [5, 6])) mNil))))))))
def m__is_step (ds : List D) : Option D := mDef 7 b__is_step ds
def b_is_code : En → Option Fl :=
  (sSeq (sIf (mOr (mNot (mTru (mUn (dIsi "tuple") (mVar 0)))) (mNot (mTest (mChain dLe dLe (mC (.int 1)) (mCall dLen (mCons (mVar 0) mNil)) (mC (.int (30)))))))
  (sRet (mC (.bool false)))
  sNext)
  (sRet (mCall dAll (mCons (mList (mLc (mIter (mVar 0)) (gSet 1) mYes (mCall (lim 2 m__is_step) (mCons (mVar 1) (mCons (mCall dLen (mCons (mVar 0) mNil)) mNil))) [1])) mNil))))
def m_is_code (ds : List D) : Option D := mDef 2 b_is_code ds
def b_demand_code : En → Option FlX :=
  (xIf (mNot (mTru (mCall (lim 1 m_is_code) (mCons (mVar 0) mNil))))
  (xRaise 1)
  (xFl sNext))
def m_demand_code (ds : List D) : Option Rs := xDef 1 b_demand_code ds
def b_begun : En → Option FlX :=
  (xSeq (xDrop (xCall 1 m_demand_code (mCons (mVar 0) mNil)))
  (xSeq (xFl (sAsg (mOp dMul (mTup (mCons (mC (.int 0)) mNil)) (mOp dSub (mC (.int (8))) (mCall dLen (mCons (mVar 1) mNil)))) (gSet 2)))
  (xFl (sRet (mTup (mCons (mVar 0) (mCons (mC (.int 0)) (mCons (mTup (mStar (mVar 1) (mStar (mVar 2) mNil))) (mCons (mOp dMul (mTup (mCons (mC .none) mNil)) (mC (.int (6)))) (mCons (mOp dMul (mTup (mCons (mC (.bool false)) mNil)) (mC (.int (6)))) (mCons (mC .none) mNil)))))))))))
def m_begun (ds : List D) : Option Rs := xDef 3 b_begun ds
def b__fits : En → Option Fl :=
  (sSeq (sIf (mOr (mNot (mTru (mUn (dIsi "tuple") (mVar 1)))) (mOr (mTest (mOp dNe (mCall dLen (mCons (mVar 1) mNil)) (mC (.int 2)))) (mTest (mOp dNe (mOp dIx (mVar 1) (mC (.int 0))) (mC (.str ("told" : Str)))))))
  (sRet (mC (.bool false)))
  sNext)
  (sSeq (sIf (mTest (mOp dEq (mOp dIx (mVar 0) (mC (.int 0))) (mC (.str ("next" : Str)))))
  (sRet (mOrV (mOp dIs (mOp dIx (mVar 1) (mC (.int 1))) (mC .none)) (mCall (lim 1 m_is_record) (mCons (mOp dIx (mVar 1) (mC (.int 1))) mNil))))
  sNext)
  (sRet (mAndV (mOp (dInT false) (mOp dIx (mVar 0) (mC (.int 0))) (mTup (mCons (mC (.str ("put" : Str))) (mCons (mC (.str ("line" : Str))) (mCons (mC (.str ("mark" : Str))) mNil))))) (mOp dIsB (mOp dIx (mVar 1) (mC (.int 1))) (mC (.bool true)))))))
def m__fits (ds : List D) : Option D := mDef 2 b__fits ds
def b__with_part : En → Option Fl :=
  (sRet (mTup (mStar (mSl (mVar 0) mNoPart (mPart (mVar 1))) (mCons (mVar 2) (mStar (mSl (mVar 0) (mPart (mOp dAdd (mVar 1) (mC (.int 1)))) mNoPart) mNil)))))
def m__with_part (ds : List D) : Option D := mDef 3 b__with_part ds
def b__further : En → Option Fl :=
  (sRet (mCall (lim 3 m__with_part) (mCons (mVar 0) (mCons (mC (.int (1))) (mCons (mOp dAdd (mOp dIx (mVar 0) (mC (.int (1)))) (mC (.int 1))) mNil)))))
def m__further (ds : List D) : Option D := mDef 1 b__further ds
def b__with_record : En → Option Fl :=
  (sSeq (sAsg (mCall (lim 3 m__with_part) (mCons (mVar 0) (mCons (mC (.int (3))) (mCons (mCall (lim 3 m__with_part) (mCons (mOp dIx (mVar 0) (mC (.int (3)))) (mCons (mVar 1) (mCons (mVar 2) mNil)))) mNil)))) (gSet 3))
  (sRet (mCall (lim 3 m__with_part) (mCons (mVar 3) (mCons (mC (.int (4))) (mCons (mCall (lim 3 m__with_part) (mCons (mOp dIx (mVar 0) (mC (.int (4)))) (mCons (mVar 1) (mCons (mOp dIs (mVar 2) (mC .none)) mNil)))) mNil))))))
def m__with_record (ds : List D) : Option D := mDef 4 b__with_record ds
def b__answered : En → Option FlX :=
  (xSeq (xFl (sAsg (mOp dIx (mVar 0) (mC (.int (5)))) (gSet 2)))
  (xSeq (xIf (mNot (mTru (mCall (lim 2 m__fits) (mCons (mVar 2) (mCons (mVar 1) mNil)))))
  (xRaise 0)
  (xFl sNext))
  (xSeq (xFl (sIf (mTest (mOp dEq (mOp dIx (mVar 2) (mC (.int 0))) (mC (.str ("next" : Str)))))
  (sAsg (mCall (lim 3 m__with_record) (mCons (mVar 0) (mCons (mOp dIx (mVar 2) (mC (.int 1))) (mCons (mOp dIx (mVar 1) (mC (.int 1))) mNil)))) (gSet 0))
  sNext))
  (xFl (sRet (mCall (lim 1 m__further) (mCons (mCall (lim 3 m__with_part) (mCons (mVar 0) (mCons (mC (.int (5))) (mCons (mC .none) mNil)))) mNil)))))))
def m__answered (ds : List D) : Option Rs := xDef 3 b__answered ds
def b__asking : En → Option Fl :=
  (sRet (mTup (mCons (mCall (lim 3 m__with_part) (mCons (mVar 0) (mCons (mC (.int (5))) (mCons (mVar 1) mNil)))) (mCons (mVar 1) mNil))))
def m__asking (ds : List D) : Option D := mDef 2 b__asking ds
def b__next_place : En → Option Fl :=
  (sSeq (sAsg (mOp dIx (mVar 1) (mC (.int 0))) (gSet 2))
  (sSeq (sIf (mTest (mOp dEq (mVar 2) (mC (.str ("go" : Str)))))
  (sRet (mOp dIx (mVar 1) (mC (.int 1))))
  sNext)
  (sSeq (sAsg (mIfE (mTest (mOp dEq (mVar 2) (mC (.str ("over" : Str))))) (mOp dIx (mOp dIx (mVar 0) (mC (.int (4)))) (mOp dIx (mVar 1) (mC (.int 1)))) (mOp dNe (mOp dIx (mOp dIx (mVar 0) (mC (.int (2)))) (mOp dIx (mVar 1) (mC (.int 1)))) (mC (.int 0)))) (gSet 3))
  (sRet (mIfE (mTru (mVar 3)) (mOp dIx (mVar 1) (mC (.int 2))) (mOp dAdd (mOp dIx (mVar 0) (mC (.int (1)))) (mC (.int 1))))))))
def m__next_place (ds : List D) : Option D := mDef 4 b__next_place ds
def b__row_of : En → Option Fl :=
  (sRet (mCall dTupOf (mCons (mList (mLc (mIter (mVar 1)) (gSet 2) mYes (mOp dIx (mVar 0) (mVar 2)) [2])) mNil)))
def m__row_of (ds : List D) : Option D := mDef 3 b__row_of ds
def b__question : En → Option Fl :=
  (sSeq (sAsg (mOp dIx (mVar 1) (mC (.int 0))) (gSet 2))
  (sSeq (sAsg (mOp dIx (mVar 0) (mC (.int (2)))) (gSet 3))
  (sSeq (sIf (mTest (mOp dEq (mVar 2) (mC (.str ("take" : Str)))))
  (sRet (mTup (mCons (mC (.str ("next" : Str))) (mCons (mOp dIx (mVar 1) (mC (.int 1))) mNil))))
  sNext)
  (sSeq (sIf (mTest (mOp dEq (mVar 2) (mC (.str ("put" : Str)))))
  (sRet (mTup (mCons (mC (.str ("put" : Str))) (mCons (mOp dIx (mVar 1) (mC (.int 1))) (mCons (mCall (lim 2 m__row_of) (mCons (mVar 3) (mCons (mOp dIx (mVar 1) (mC (.int 2))) mNil))) mNil)))))
  sNext)
  (sSeq (sIf (mTest (mOp dEq (mVar 2) (mC (.str ("line" : Str)))))
  (sRet (mTup (mCons (mC (.str ("line" : Str))) (mCons (mCall (lim 2 m__row_of) (mCons (mVar 3) (mCons (mOp dIx (mVar 1) (mC (.int 1))) mNil))) mNil))))
  sNext)
  (sSeq (sIf (mTest (mOp dEq (mVar 2) (mC (.str ("mark" : Str)))))
  (sRet (mTup (mCons (mC (.str ("mark" : Str))) mNil)))
  sNext)
  (sRet (mTup (mCons (mC (.str ("end" : Str))) (mCons (mOp dIx (mVar 3) (mOp dIx (mVar 1) (mC (.int 1)))) mNil))))))))))
def m__question (ds : List D) : Option D := mDef 4 b__question ds
def b__with_register : En → Option Fl :=
  (sRet (mCall (lim 3 m__with_part) (mCons (mVar 0) (mCons (mC (.int (2))) (mCons (mCall (lim 3 m__with_part) (mCons (mOp dIx (mVar 0) (mC (.int (2)))) (mCons (mVar 1) (mCons (mVar 2) mNil)))) mNil)))))
def m__with_register (ds : List D) : Option D := mDef 3 b__with_register ds
def b__field_of : En → Option Fl :=
  (sRet (mIfE (mOr (mTest (mOp dIs (mVar 0) (mC .none))) (mTest (mOp dGe (mVar 1) (mCall dLen (mCons (mVar 0) mNil))))) (mC (.int 0)) (mOp dIx (mVar 0) (mVar 1))))
def m__field_of (ds : List D) : Option D := mDef 2 b__field_of ds
def b__is_less : En → Option Fl :=
  (sRet (mIfE (mTest (mOp dLt (mVar 0) (mVar 1))) (mC (.int 1)) (mC (.int 0))))
def m__is_less (ds : List D) : Option D := mDef 2 b__is_less ds
def b__is_same : En → Option Fl :=
  (sRet (mIfE (mTest (mOp dEq (mVar 0) (mVar 1))) (mC (.int 1)) (mC (.int 0))))
def m__is_same (ds : List D) : Option D := mDef 2 b__is_same ds
def b__product_of : En → Option Fl :=
  (sRet (mOp dMod (mOp dMul (mVar 0) (mVar 1)) (mC (.int (10000)))))
def m__product_of (ds : List D) : Option D := mDef 2 b__product_of ds
def b__quotient_of : En → Option Fl :=
  (sRet (mOp dFdiv (mVar 0) (mVar 1)))
def m__quotient_of (ds : List D) : Option D := mDef 2 b__quotient_of ds
def b__remainder_of : En → Option Fl :=
  (sRet (mOp dMod (mVar 0) (mVar 1)))
def m__remainder_of (ds : List D) : Option D := mDef 2 b__remainder_of ds
def b__rest_of : En → Option Fl :=
  (sRet (mOp dMod (mOp dSub (mVar 0) (mVar 1)) (mC (.int (10000)))))
def m__rest_of (ds : List D) : Option D := mDef 2 b__rest_of ds
def b__sum_of : En → Option Fl :=
  (sRet (mOp dMod (mOp dAdd (mVar 0) (mVar 1)) (mC (.int (10000)))))
def m__sum_of (ds : List D) : Option D := mDef 2 b__sum_of ds
def ft_RECKONINGS : List (Str × (List D → Option D)) := [("add", m__sum_of), ("div", m__quotient_of), ("less", m__is_less), ("mod", m__remainder_of), ("mul", m__product_of), ("same", m__is_same), ("sub", m__rest_of)]
def b__worth : En → Option Fl :=
  (sSeq (sAsg (mOp dIx (mVar 1) (mC (.int 0))) (gSet 2))
  (sSeq (sAsg (mOp dIx (mVar 0) (mC (.int (2)))) (gSet 3))
  (sSeq (sIf (mTest (mUn (dInF ["add", "div", "less", "mod", "mul", "same", "sub"]) (mVar 2)))
  (sDisp 4 2 ft_RECKONINGS (mVar 2) (mCons (mOp dIx (mVar 3) (mOp dIx (mVar 1) (mC (.int 2)))) (mCons (mOp dIx (mVar 3) (mOp dIx (mVar 1) (mC (.int 3)))) mNil)))
  sNext)
  (sSeq (sIf (mTest (mOp dEq (mVar 2) (mC (.str ("set" : Str)))))
  (sRet (mOp dIx (mVar 1) (mC (.int 2))))
  sNext)
  (sSeq (sIf (mTest (mOp dEq (mVar 2) (mC (.str ("copy" : Str)))))
  (sRet (mOp dIx (mVar 3) (mOp dIx (mVar 1) (mC (.int 2)))))
  sNext)
  (sRet (mCall (lim 2 m__field_of) (mCons (mOp dIx (mOp dIx (mVar 0) (mC (.int (3)))) (mOp dIx (mVar 1) (mC (.int 2)))) (mCons (mOp dIx (mVar 1) (mC (.int 3))) mNil)))))))))
def m__worth (ds : List D) : Option D := mDef 5 b__worth ds
def b__done : En → Option Fl :=
  (sSeq (sAsg (mOp dIx (mVar 1) (mC (.int 0))) (gSet 2))
  (sSeq (sIf (mAnd (mTest (mOp (dInT false) (mVar 2) (mTup (mCons (mC (.str ("div" : Str))) (mCons (mC (.str ("mod" : Str))) mNil))))) (mTest (mOp dEq (mOp dIx (mOp dIx (mVar 0) (mC (.int (2)))) (mOp dIx (mVar 1) (mC (.int 3)))) (mC (.int 0)))))
  (sRet (mCall (lim 2 m__asking) (mCons (mVar 0) (mCons (mTup (mCons (mC (.str ("fault" : Str))) (mCons (mC (.str ("zero" : Str))) mNil))) mNil))))
  sNext)
  (sSeq (sIf (mOr (mTest (mUn (dInF ["add", "div", "less", "mod", "mul", "same", "sub"]) (mVar 2))) (mTest (mOp (dInT false) (mVar 2) (mTup (mCons (mC (.str ("set" : Str))) (mCons (mC (.str ("copy" : Str))) (mCons (mC (.str ("field" : Str))) mNil)))))))
  (sRet (mTup (mCons (mCall (lim 1 m__further) (mCons (mCall (lim 3 m__with_register) (mCons (mVar 0) (mCons (mOp dIx (mVar 1) (mC (.int 1))) (mCons (mCall (lim 2 m__worth) (mCons (mVar 0) (mCons (mVar 1) mNil))) mNil)))) mNil)) (mCons (mC .none) mNil))))
  sNext)
  (sSeq (sIf (mTest (mOp (dInT false) (mVar 2) (mTup (mCons (mC (.str ("go" : Str))) (mCons (mC (.str ("if" : Str))) (mCons (mC (.str ("over" : Str))) mNil))))))
  (sRet (mTup (mCons (mCall (lim 3 m__with_part) (mCons (mVar 0) (mCons (mC (.int (1))) (mCons (mCall (lim 2 m__next_place) (mCons (mVar 0) (mCons (mVar 1) mNil))) mNil)))) (mCons (mC .none) mNil))))
  sNext)
  (sRet (mCall (lim 2 m__asking) (mCons (mVar 0) (mCons (mCall (lim 2 m__question) (mCons (mVar 0) (mCons (mVar 1) mNil))) mNil))))))))
def m__done (ds : List D) : Option D := mDef 3 b__done ds
def b_gone : En → Option FlX :=
  (xSeq (xIf (mTest (mOp dIsNot (mOp dIx (mVar 0) (mC (.int (5)))) (mC .none)))
  (xRet (xTupC (xCall 2 m__answered (mCons (mVar 0) (mCons (mVar 1) mNil))) (mCons (mC .none) mNil)))
  (xFl sNext))
  (xSeq (xIf (mTest (mOp dIsNot (mVar 1) (mC .none)))
  (xRaise 0)
  (xFl sNext))
  (xSeq (xFl (sIf (mTest (mOp dGe (mOp dIx (mVar 0) (mC (.int (1)))) (mCall dLen (mCons (mOp dIx (mVar 0) (mC (.int (0)))) mNil))))
  (sRet (mCall (lim 2 m__asking) (mCons (mVar 0) (mCons (mTup (mCons (mC (.str ("fault" : Str))) (mCons (mC (.str ("place" : Str))) mNil))) mNil))))
  sNext))
  (xFl (sRet (mCall (lim 2 m__done) (mCons (mVar 0) (mCons (mOp dIx (mOp dIx (mVar 0) (mC (.int (0)))) (mOp dIx (mVar 0) (mC (.int (1))))) mNil))))))))
def m_gone (ds : List D) : Option Rs := xDef 2 b_gone ds
def fuel__law_pick_0 (ρ : En) : Nat := fuelOf 5 ρ
def b__law_pick : En → Option Fl :=
  (sSeq (sAsg (mIfE (mTest (mOp dNe (mVar 0) (mList (mLst mNil)))) (mOp dIx (mVar 0) (mOp dMod (mVar 1) (mCall dLen (mCons (mVar 0) mNil)))) (mC (.int 0))) (gSet 3))
  (sSeq (sPar 4 5 (mOp dFdiv (mVar 3) (mOp dPow (mC (.int 10)) (mC (.int 18)))) (mOp dFdiv (mVar 1) (mCall dMax2 (mCons (mCall dLen (mCons (mVar 0) mNil)) (mCons (mC (.int 1)) mNil)))))
  (sSeq (sWhile fuel__law_pick_0 (mAnd (mTest (mOp dGt (mVar 4) (mC (.int 0)))) (mTest (mOp dGt (mVar 5) (mC (.int 0)))))
  (sPar 4 5 (mOp dFdiv (mVar 4) (mC (.int 840))) (mOp dSub (mVar 5) (mC (.int 1)))))
  (sSeq (sIf (mTest (mOp dGt (mVar 4) (mC (.int 0))))
  (sRet (mOp dMod (mOp dMod (mVar 4) (mC (.int 840))) (mVar 2)))
  sNext)
  (sSeq (sAsg (mOp dMod (mOp dMul (mOp dAdd (mOp dMul (mVar 3) (mC (.int 31))) (mOp dMul (mC (.int 6151)) (mOp dAdd (mVar 1) (mC (.int 1))))) (mC (.int 40692))) (mC (.int 2147483399))) (gSet 6))
  (sRet (mOp dMod (mOp dMod (mOp dAdd (mOp dMul (mVar 6) (mVar 6)) (mOp dFdiv (mVar 6) (mC (.int 31)))) (mC (.int 2147483629))) (mVar 2))))))))
def m__law_pick (ds : List D) : Option D := mDef 7 b__law_pick ds
def b__law_class : En → Option Fl :=
  (sSeq (sOwn 1 (mLst (mCons (mIsX 0 kin_NoNumber) (mCons (mIsX 0 kin_NoName) (mCons (mIsX 0 kin_NoRecords) (mCons (mIsX 0 kin_NoCode) mNil))))))
  (sSeq (sExtend 1 (mLst (mCons (mIsX 0 kin_NoDeck) (mCons (mIsX 0 kin_NoAnswer) (mCons (mIsX 0 kin_NoJob) (mCons (mIsX 0 kin_NoSlot) mNil))))))
  (sSeq (sExtend 1 (mLst (mCons (mIsX 0 kin_NoAccount) (mCons (mIsX 0 kin_NoVolume) (mCons (mIsX 0 kin_NoDrive) (mCons (mIsX 0 kin_NoPrinter) mNil))))))
  (sSeq (sExtend 1 (mLst (mCons (mIsX 0 kin_NoChoices) (mCons (mIsX 0 kin_IsDown) (mCons (mIsX 0 kin_IsUp) (mCons (mIsX 0 kin_NoEvents) mNil))))))
  (sSeq (sExtend 1 (mLst (mCons (mIsX 0 kin_NoText) (mCons (mIsX 0 kin_NoValue) (mCons (mIsX 0 kin_NoWords) (mCons (mIsX 0 kin_NoRoom) mNil))))))
  (sSeq (sExtend 1 (mLst (mCons (mIsX 0 kin_TooDear) (mCons (mIsX 0 kin_Busy) mNil))))
  (sSeq (sFrz 1 (sIf (mOr (mTest (mOp dNe (mOp dCount (mVar 1) (mC (.bool true))) (mC (.int 1)))) (mNot (mTru (mIsX 0 kin_ValueError))))
  (sRet (mC (.str ("wrong" : Str))))
  sNext))
  (sSeq (sOwn 2 (mLst (mCons (mC (.str ("NoNumber" : Str))) (mCons (mC (.str ("NoName" : Str))) (mCons (mC (.str ("NoRecords" : Str))) (mCons (mC (.str ("NoCode" : Str))) (mCons (mC (.str ("NoDeck" : Str))) (mCons (mC (.str ("NoAnswer" : Str))) (mCons (mC (.str ("NoJob" : Str))) (mCons (mC (.str ("NoSlot" : Str))) mNil))))))))))
  (sSeq (sExtend 2 (mLst (mCons (mC (.str ("NoAccount" : Str))) (mCons (mC (.str ("NoVolume" : Str))) (mCons (mC (.str ("NoDrive" : Str))) (mCons (mC (.str ("NoPrinter" : Str))) (mCons (mC (.str ("NoChoices" : Str))) (mCons (mC (.str ("IsDown" : Str))) (mCons (mC (.str ("IsUp" : Str))) (mCons (mC (.str ("NoEvents" : Str))) mNil))))))))))
  (sSeq (sExtend 2 (mLst (mCons (mC (.str ("NoText" : Str))) (mCons (mC (.str ("NoValue" : Str))) (mCons (mC (.str ("NoWords" : Str))) (mCons (mC (.str ("NoRoom" : Str))) (mCons (mC (.str ("TooDear" : Str))) (mCons (mC (.str ("Busy" : Str))) mNil))))))))
  (sFrz 1 (sFrz 2 (sRet (mOp dIx (mVar 2) (mOp dIndex (mVar 1) (mC (.bool true)))))))))))))))))
def b__law_told : En → Option Fl :=
  (sRet (mTup (mCons (mC (.str ("refused" : Str))) (mCons (mExcV 1 (mExc 3 0 b__law_class)) mNil))))
def b_law : En → Option Fl :=
  (sSeq (sPar 1 2 (mCall (lim 3 m__law_pick) (mCons (mVar 0) (mCons (mC (.int 0)) (mCons (mC (.int 9999)) mNil)))) (mOp dAdd (mC (.int 1)) (mCall (lim 3 m__law_pick) (mCons (mVar 0) (mCons (mC (.int 1)) (mCons (mC (.int 5)) mNil))))))
  (sSeq (sAsg (mTup (mCons (mTup (mCons (mC (.str ("set" : Str))) (mCons (mC (.int 3)) (mCons (mVar 1) mNil)))) (mCons (mTup (mCons (mC (.str ("take" : Str))) (mCons (mVar 2) mNil))) (mCons (mTup (mCons (mC (.str ("put" : Str))) (mCons (mC (.int 0)) (mCons (mTup (mCons (mC (.int 3)) (mCons (mC (.int 0)) mNil))) mNil)))) (mCons (mTup (mCons (mC (.str ("line" : Str))) (mCons (mTup (mCons (mC (.int 3)) mNil)) mNil))) (mCons (mTup (mCons (mC (.str ("mark" : Str))) mNil)) (mCons (mTup (mCons (mC (.str ("div" : Str))) (mCons (mC (.int 1)) (mCons (mC (.int 3)) (mCons (mC (.int 7)) mNil))))) (mCons (mTup (mCons (mC (.str ("end" : Str))) (mCons (mC (.int 3)) mNil))) mNil)))))))) (gSet 3))
  (sSeq (sAsg (mCall (limX 2 m_begun) (mCons (mVar 3) (mCons (mTup (mCons (mC (.int 5)) (mCons (mC (.int 6)) mNil))) mNil))) (gSet 12))
  (sSeq (sIf (mTest (mOp dNe (mVar 12) (mTup (mCons (mVar 3) (mCons (mC (.int 0)) (mCons (mTup (mCons (mC (.int 5)) (mCons (mC (.int 6)) (mCons (mC (.int 0)) (mCons (mC (.int 0)) (mCons (mC (.int 0)) (mCons (mC (.int 0)) (mCons (mC (.int 0)) (mCons (mC (.int 0)) mNil))))))))) (mCons (mOp dMul (mTup (mCons (mC .none) mNil)) (mC (.int 6))) (mCons (mOp dMul (mTup (mCons (mC (.bool false)) mNil)) (mC (.int 6))) (mCons (mC .none) mNil)))))))))
  (sRet (mC (.bool false)))
  sNext)
  (sSeq (sIf (mTest (mOp dNe (mTold okA (rSuite 2 1 b__law_told) (xCall 2 m_gone (mCons (mVar 12) (mCons (mTup (mCons (mC (.str ("told" : Str))) (mCons (mC (.bool true)) mNil))) mNil)))) (mTup (mCons (mC (.str ("refused" : Str))) (mCons (mC (.str ("NoAnswer" : Str))) mNil)))))
  (sRet (mC (.bool false)))
  sNext)
  (sSeq (sAsg (mCall (limD 2 [.none] m_gone) (mCons (mVar 12) mNil)) (gAnyM 2 (gConsM (gSet 12) (gConsM (gSet 4) gNilM))))
  (sSeq (sIf (mOr (mTest (mOp dIsNot (mVar 4) (mC .none))) (mTest (mOp dNe (mVar 12) (mTup (mCons (mVar 3) (mCons (mC (.int 1)) (mCons (mTup (mCons (mC (.int 5)) (mCons (mC (.int 6)) (mCons (mC (.int 0)) (mCons (mVar 1) (mCons (mC (.int 0)) (mCons (mC (.int 0)) (mCons (mC (.int 0)) (mCons (mC (.int 0)) mNil))))))))) (mCons (mOp dMul (mTup (mCons (mC .none) mNil)) (mC (.int 6))) (mCons (mOp dMul (mTup (mCons (mC (.bool false)) mNil)) (mC (.int 6))) (mCons (mC .none) mNil))))))))))
  (sRet (mC (.bool false)))
  sNext)
  (sSeq (sAsg (mList (mLst (mCons (mTup (mCons (mC (.str ("next" : Str))) (mCons (mVar 2) mNil))) (mCons (mTup (mCons (mC (.str ("put" : Str))) (mCons (mC (.int 0)) (mCons (mTup (mCons (mVar 1) (mCons (mC (.int 5)) mNil))) mNil)))) (mCons (mTup (mCons (mC (.str ("line" : Str))) (mCons (mTup (mCons (mVar 1) mNil)) mNil))) (mCons (mTup (mCons (mC (.str ("mark" : Str))) mNil)) mNil)))))) (gSet 5))
  (sSeq (sAsg (mList (mLst (mCons (mIfE (mTest (mOp dEq (mCall (lim 3 m__law_pick) (mCons (mVar 0) (mCons (mC (.int 2)) (mCons (mC (.int 2)) mNil)))) (mC (.int 0)))) (mTup (mCons (mVar 1) (mCons (mC (.int 8)) mNil))) (mC .none)) (mCons (mC (.bool true)) (mCons (mC (.bool true)) (mCons (mC (.bool true)) mNil)))))) (gSet 6))
  (sSeq (sFor (mZip (mCons (mVar 5) (mCons (mVar 6) mNil))) (gTupM 2 (gConsM (gSet 7) (gConsM (gSet 8) gNilM)))
  (sSeq (sAsg (mCall (limD 2 [.none] m_gone) (mCons (mVar 12) mNil)) (gAnyM 2 (gConsM (gSet 12) (gConsM (gSet 4) gNilM))))
  (sSeq (sIf (mOr (mTest (mOp dNe (mVar 4) (mVar 7))) (mTest (mOp dNe (mOp dIx (mVar 12) (mC (.int 5))) (mVar 7))))
  (sRet (mC (.bool false)))
  sNext)
  (sSeq (sOwn 9 (mLst (mCons (mC .none) (mCons (mC (.bool true)) (mCons (mTup mNil) (mCons (mTup (mCons (mC (.str ("told" : Str))) mNil)) (mCons (mList (mLst (mCons (mC (.str ("told" : Str))) (mCons (mVar 8) mNil)))) (mCons (mTup (mCons (mC (.str ("no" : Str))) (mCons (mVar 8) mNil))) (mCons (mTup (mCons (mC (.str ("told" : Str))) (mCons (mVar 8) (mCons (mVar 8) mNil)))) (mCons (mTup (mCons (mC (.str ("told" : Str))) (mCons (mC (.int 5)) mNil))) (mCons (mTup (mCons (mC (.str ("told" : Str))) (mCons (mTup mNil) mNil))) mNil)))))))))))
  (sSeq (sAppend 9 (mTup (mCons (mC (.str ("told" : Str))) (mCons (mIfE (mTest (mOp dNe (mOp dIx (mVar 7) (mC (.int 0))) (mC (.str ("next" : Str))))) (mC .none) (mC (.bool true))) mNil))))
  (sSeq (sFrz 9 (sFor (mIter (mVar 9)) (gSet 11)
  (sIf (mTest (mOp dNe (mTold okA (rSuite 2 1 b__law_told) (xCall 2 m_gone (mCons (mVar 12) (mCons (mVar 11) mNil)))) (mTup (mCons (mC (.str ("refused" : Str))) (mCons (mC (.str ("NoAnswer" : Str))) mNil)))))
  (sRet (mC (.bool false)))
  sNext)))
  (sSeq (sAsg (mVar 12) (gSet 10))
  (sSeq (sAsg (mCall (limX 2 m_gone) (mCons (mVar 12) (mCons (mTup (mCons (mC (.str ("told" : Str))) (mCons (mVar 8) mNil))) mNil))) (gAnyM 2 (gConsM (gSet 12) (gConsM (gSet 4) gNilM))))
  (sIf (mOr (mTest (mOp dIsNot (mVar 4) (mC .none))) (mOr (mTest (mOp dNe (mOp dIx (mVar 12) (mC (.int 1))) (mOp dAdd (mOp dIx (mVar 10) (mC (.int 1))) (mC (.int 1))))) (mOr (mTest (mOp dIsNot (mOp dIx (mVar 12) (mC (.int 5))) (mC .none))) (mTest (mOp dNe (mOp dIx (mVar 12) (mC (.int 2))) (mOp dIx (mVar 10) (mC (.int 2))))))))
  (sRet (mC (.bool false)))
  sNext)))))))))
  (sSeq (sIf (mOr (mTest (mOp dNe (mOp dIx (mOp dIx (mVar 12) (mC (.int 3))) (mVar 2)) (mOp dIx (mVar 6) (mC (.int 0))))) (mTest (mOp dNe (mOp dIx (mOp dIx (mVar 12) (mC (.int 4))) (mVar 2)) (mOp dIs (mOp dIx (mVar 6) (mC (.int 0))) (mC .none)))))
  (sRet (mC (.bool false)))
  sNext)
  (sSeq (sAsg (mCall (limD 2 [.none] m_gone) (mCons (mVar 12) mNil)) (gAnyM 2 (gConsM (gSet 12) (gConsM (gSet 4) gNilM))))
  (sSeq (sIf (mOr (mTest (mOp dNe (mVar 4) (mTup (mCons (mC (.str ("fault" : Str))) (mCons (mC (.str ("zero" : Str))) mNil))))) (mOr (mTest (mOp dNe (mOp dIx (mVar 12) (mC (.int 5))) (mVar 4))) (mTest (mOp dNe (mTold okA (rSuite 2 1 b__law_told) (xCallD 2 [.none] m_gone (mCons (mVar 12) mNil))) (mTup (mCons (mC (.str ("refused" : Str))) (mCons (mC (.str ("NoAnswer" : Str))) mNil)))))))
  (sRet (mC (.bool false)))
  sNext)
  (sSeq (sAsg (mCall (limD 2 [.none] m_gone) (mCons (mCall (limX 2 m_begun) (mCons (mTup (mCons (mTup (mCons (mC (.str ("set" : Str))) (mCons (mC (.int 0)) (mCons (mVar 1) mNil)))) mNil)) (mCons (mTup mNil) mNil))) mNil)) (gAnyM 2 (gConsM (gSet 12) (gConsM (gSet 4) gNilM))))
  (sRet (mAndV (mOp dIs (mVar 4) (mC .none)) (mAndV (mOp dEq (mOp dIx (mCall (limD 2 [.none] m_gone) (mCons (mVar 12) mNil)) (mC (.int 1))) (mTup (mCons (mC (.str ("fault" : Str))) (mCons (mC (.str ("place" : Str))) mNil)))) (mOp dEq (mOp dIx (mCall (limD 2 [.none] m_gone) (mCons (mCall (limX 2 m_begun) (mCons (mTup (mCons (mTup (mCons (mC (.str ("end" : Str))) (mCons (mC (.int 0)) mNil))) mNil)) (mCons (mTup (mCons (mVar 1) mNil)) mNil))) mNil)) (mC (.int 1))) (mTup (mCons (mC (.str ("end" : Str))) (mCons (mVar 1) mNil)))))))))))))))))))))
def m_law (ds : List D) : Option D := mDef 13 b_law ds
/-! ### what the top leaves -/
structure Tx (K : PySem.W.Frag) (w : World) (mg : Str → Option Value) where
  f_is_whole : Addr
  d_is_whole : FuncData
  F_is_whole : Fun K "is_whole" "is_whole" s_is_whole f_is_whole d_is_whole
  b_is_whole : Binds K d_is_whole ["thing", "low", "high"] []
  g_is_whole : mg "is_whole" = some (.ref f_is_whole)
  f_is_word : Addr
  d_is_word : FuncData
  F_is_word : Fun K "is_word" "is_word" s_is_word f_is_word d_is_word
  b_is_word : Binds K d_is_word ["thing"] []
  g_is_word : mg "is_word" = some (.ref f_is_word)
  f_is_record : Addr
  d_is_record : FuncData
  F_is_record : Fun K "is_record" "is_record" s_is_record f_is_record d_is_record
  b_is_record : Binds K d_is_record ["thing"] []
  g_is_record : mg "is_record" = some (.ref f_is_record)
  f_is_code : Addr
  d_is_code : FuncData
  F_is_code : Fun K "is_code" "is_code" s_is_code f_is_code d_is_code
  b_is_code : Binds K d_is_code ["thing"] []
  g_is_code : mg "is_code" = some (.ref f_is_code)
  f_demand_code : Addr
  d_demand_code : FuncData
  F_demand_code : Fun K "demand_code" "demand_code" s_demand_code f_demand_code d_demand_code
  b_demand_code : Binds K d_demand_code ["thing"] []
  g_demand_code : mg "demand_code" = some (.ref f_demand_code)
  f__is_step : Addr
  d__is_step : FuncData
  F__is_step : Fun K "_is_step" "_is_step" s__is_step f__is_step d__is_step
  b__is_step : Binds K d__is_step ["thing", "many"] []
  g__is_step : mg "_is_step" = some (.ref f__is_step)
  f__is_part : Addr
  d__is_part : FuncData
  F__is_part : Fun K "_is_part" "_is_part" s__is_part f__is_part d__is_part
  b__is_part : Binds K d__is_part ["thing", "kind", "many"] []
  g__is_part : mg "_is_part" = some (.ref f__is_part)
  f__is_row : Addr
  d__is_row : FuncData
  F__is_row : Fun K "_is_row" "_is_row" s__is_row f__is_row d__is_row
  b__is_row : Binds K d__is_row ["thing"] []
  g__is_row : mg "_is_row" = some (.ref f__is_row)
  f_begun : Addr
  d_begun : FuncData
  F_begun : Fun K "begun" "begun" s_begun f_begun d_begun
  b_begun : Binds K d_begun ["code", "parameters"] []
  g_begun : mg "begun" = some (.ref f_begun)
  f_gone : Addr
  d_gone : FuncData
  F_gone : FunD K "gone" "gone" (defArgs s_gone) (defBody s_gone) (defScope s_gone) [V.non] [] f_gone d_gone
  b_gone : Binds K d_gone ["mind", "answer"] []
  l_gone : List Value
  v_gone : Vals [V.non] l_gone
  e_gone : Binds K d_gone ["mind", "answer"] l_gone
  g_gone : mg "gone" = some (.ref f_gone)
  f__answered : Addr
  d__answered : FuncData
  F__answered : Fun K "_answered" "_answered" s__answered f__answered d__answered
  b__answered : Binds K d__answered ["mind", "answer"] []
  g__answered : mg "_answered" = some (.ref f__answered)
  f__fits : Addr
  d__fits : FuncData
  F__fits : Fun K "_fits" "_fits" s__fits f__fits d__fits
  b__fits : Binds K d__fits ["waits", "answer"] []
  g__fits : mg "_fits" = some (.ref f__fits)
  f__done : Addr
  d__done : FuncData
  F__done : Fun K "_done" "_done" s__done f__done d__done
  b__done : Binds K d__done ["mind", "step"] []
  g__done : mg "_done" = some (.ref f__done)
  f__worth : Addr
  d__worth : FuncData
  F__worth : Fun K "_worth" "_worth" s__worth f__worth d__worth
  b__worth : Binds K d__worth ["mind", "step"] []
  g__worth : mg "_worth" = some (.ref f__worth)
  f__field_of : Addr
  d__field_of : FuncData
  F__field_of : Fun K "_field_of" "_field_of" s__field_of f__field_of d__field_of
  b__field_of : Binds K d__field_of ["record", "at"] []
  g__field_of : mg "_field_of" = some (.ref f__field_of)
  f__next_place : Addr
  d__next_place : FuncData
  F__next_place : Fun K "_next_place" "_next_place" s__next_place f__next_place d__next_place
  b__next_place : Binds K d__next_place ["mind", "step"] []
  g__next_place : mg "_next_place" = some (.ref f__next_place)
  f__question : Addr
  d__question : FuncData
  F__question : Fun K "_question" "_question" s__question f__question d__question
  b__question : Binds K d__question ["mind", "step"] []
  g__question : mg "_question" = some (.ref f__question)
  f__row_of : Addr
  d__row_of : FuncData
  F__row_of : Fun K "_row_of" "_row_of" s__row_of f__row_of d__row_of
  b__row_of : Binds K d__row_of ["registers", "row"] []
  g__row_of : mg "_row_of" = some (.ref f__row_of)
  f__asking : Addr
  d__asking : FuncData
  F__asking : Fun K "_asking" "_asking" s__asking f__asking d__asking
  b__asking : Binds K d__asking ["mind", "asked"] []
  g__asking : mg "_asking" = some (.ref f__asking)
  f__further : Addr
  d__further : FuncData
  F__further : Fun K "_further" "_further" s__further f__further d__further
  b__further : Binds K d__further ["mind"] []
  g__further : mg "_further" = some (.ref f__further)
  f__with_record : Addr
  d__with_record : FuncData
  F__with_record : Fun K "_with_record" "_with_record" s__with_record f__with_record d__with_record
  b__with_record : Binds K d__with_record ["mind", "card", "record"] []
  g__with_record : mg "_with_record" = some (.ref f__with_record)
  f__with_register : Addr
  d__with_register : FuncData
  F__with_register : Fun K "_with_register" "_with_register" s__with_register f__with_register d__with_register
  b__with_register : Binds K d__with_register ["mind", "at", "word"] []
  g__with_register : mg "_with_register" = some (.ref f__with_register)
  f__with_part : Addr
  d__with_part : FuncData
  F__with_part : Fun K "_with_part" "_with_part" s__with_part f__with_part d__with_part
  b__with_part : Binds K d__with_part ["row", "at", "part"] []
  g__with_part : mg "_with_part" = some (.ref f__with_part)
  f__sum_of : Addr
  d__sum_of : FuncData
  F__sum_of : Fun K "_sum_of" "_sum_of" s__sum_of f__sum_of d__sum_of
  b__sum_of : Binds K d__sum_of ["left", "right"] []
  g__sum_of : mg "_sum_of" = some (.ref f__sum_of)
  f__rest_of : Addr
  d__rest_of : FuncData
  F__rest_of : Fun K "_rest_of" "_rest_of" s__rest_of f__rest_of d__rest_of
  b__rest_of : Binds K d__rest_of ["left", "right"] []
  g__rest_of : mg "_rest_of" = some (.ref f__rest_of)
  f__product_of : Addr
  d__product_of : FuncData
  F__product_of : Fun K "_product_of" "_product_of" s__product_of f__product_of d__product_of
  b__product_of : Binds K d__product_of ["left", "right"] []
  g__product_of : mg "_product_of" = some (.ref f__product_of)
  f__quotient_of : Addr
  d__quotient_of : FuncData
  F__quotient_of : Fun K "_quotient_of" "_quotient_of" s__quotient_of f__quotient_of d__quotient_of
  b__quotient_of : Binds K d__quotient_of ["left", "right"] []
  g__quotient_of : mg "_quotient_of" = some (.ref f__quotient_of)
  f__remainder_of : Addr
  d__remainder_of : FuncData
  F__remainder_of : Fun K "_remainder_of" "_remainder_of" s__remainder_of f__remainder_of d__remainder_of
  b__remainder_of : Binds K d__remainder_of ["left", "right"] []
  g__remainder_of : mg "_remainder_of" = some (.ref f__remainder_of)
  f__is_less : Addr
  d__is_less : FuncData
  F__is_less : Fun K "_is_less" "_is_less" s__is_less f__is_less d__is_less
  b__is_less : Binds K d__is_less ["left", "right"] []
  g__is_less : mg "_is_less" = some (.ref f__is_less)
  f__is_same : Addr
  d__is_same : FuncData
  F__is_same : Fun K "_is_same" "_is_same" s__is_same f__is_same d__is_same
  b__is_same : Binds K d__is_same ["left", "right"] []
  g__is_same : mg "_is_same" = some (.ref f__is_same)
  f__law_pick : Addr
  d__law_pick : FuncData
  F__law_pick : Fun K "_law_pick" "_law_pick" s__law_pick f__law_pick d__law_pick
  b__law_pick : Binds K d__law_pick ["_law_script", "_law_k", "_law_many"] []
  g__law_pick : mg "_law_pick" = some (.ref f__law_pick)
  f__law_class : Addr
  d__law_class : FuncData
  F__law_class : Fun K "_law_class" "_law_class" s__law_class f__law_class d__law_class
  b__law_class : Binds K d__law_class ["_law_e"] []
  g__law_class : mg "_law_class" = some (.ref f__law_class)
  f__law_told : Addr
  d__law_told : FuncData
  F__law_told : Fun K "_law_told" "_law_told" s__law_told f__law_told d__law_told
  b__law_told : Binds K d__law_told ["_law_deed"] []
  g__law_told : mg "_law_told" = some (.ref f__law_told)
  f_law : Addr
  d_law : FuncData
  F_law : Fun K "law" "law" s_law f_law d_law
  b_law : Binds K d_law ["_law_script"] []
  g_law : mg "law" = some (.ref f_law)
  t_GREATEST_WORD : Tok
  c_GREATEST_WORD : mg "GREATEST_WORD" = some (.int (9999) t_GREATEST_WORD)
  t_MOST_WORDS : Tok
  c_MOST_WORDS : mg "MOST_WORDS" = some (.int (8) t_MOST_WORDS)
  t_MOST_STEPS : Tok
  c_MOST_STEPS : mg "MOST_STEPS" = some (.int (30) t_MOST_STEPS)
  k_PARTS : Addr
  C_PARTS : DictC K w k_PARTS kv_PARTS
  c_PARTS : mg "PARTS" = some (.ref k_PARTS)
  k_GREATEST : Addr
  C_GREATEST : DictC K w k_GREATEST kv_GREATEST
  c_GREATEST : mg "GREATEST" = some (.ref k_GREATEST)
  t_MOST_ROW : Tok
  c_MOST_ROW : mg "MOST_ROW" = some (.int (6) t_MOST_ROW)
  t_MANY_REGISTERS : Tok
  c_MANY_REGISTERS : mg "MANY_REGISTERS" = some (.int (8) t_MANY_REGISTERS)
  t_MANY_CARDS : Tok
  c_MANY_CARDS : mg "MANY_CARDS" = some (.int (6) t_MANY_CARDS)
  t_WAITS : Tok
  c_WAITS : mg "WAITS" = some (.int (5) t_WAITS)
  t_PLACE : Tok
  c_PLACE : mg "PLACE" = some (.int (1) t_PLACE)
  t_PROGRAM : Tok
  c_PROGRAM : mg "PROGRAM" = some (.int (0) t_PROGRAM)
  t_REGISTERS : Tok
  c_REGISTERS : mg "REGISTERS" = some (.int (2) t_REGISTERS)
  t_MODULUS : Tok
  c_MODULUS : mg "MODULUS" = some (.int (10000) t_MODULUS)
  t_RECORDS : Tok
  c_RECORDS : mg "RECORDS" = some (.int (3) t_RECORDS)
  t_ENDS : Tok
  c_ENDS : mg "ENDS" = some (.int (4) t_ENDS)
  k_RECKONINGS : Addr
  C_RECKONINGS : DictF K w k_RECKONINGS [("add", f__sum_of), ("div", f__quotient_of), ("less", f__is_less), ("mod", f__remainder_of), ("mul", f__product_of), ("same", f__is_same), ("sub", f__rest_of)]
  c_RECKONINGS : mg "RECKONINGS" = some (.ref k_RECKONINGS)
  n_isinstance : mg "isinstance" = none
  n_int : mg "int" = none
  n_bool : mg "bool" = none
  n_tuple : mg "tuple" = none
  n_len : mg "len" = none
  n_all : mg "all" = none
  n_str : mg "str" = none
  n_zip : mg "zip" = none
  n_max : mg "max" = none
  n_ValueError : mg "ValueError" = none
  C_NoCode : Addr
  g_NoCode : mg "NoCode" = some (.ref C_NoCode)
  x_NoCode : PySem.W.excIn K C_NoCode [.type "ValueError", .type "Exception", .type "BaseException", .type "object"] "ValueError.__new__" = true
  k_NoCode : PySem.W.keepIn K (.ref C_NoCode) = true
  b_NoCode : PySem.W.subIn K (.ref C_NoCode) (.type "BaseException") = some true
  t_NoCode : PySem.W.typeIn K (.ref C_NoCode) = some (.type "type")
  E_NoCode : ExcC K C_NoCode
  C_NoAnswer : Addr
  g_NoAnswer : mg "NoAnswer" = some (.ref C_NoAnswer)
  x_NoAnswer : PySem.W.excIn K C_NoAnswer [.type "ValueError", .type "Exception", .type "BaseException", .type "object"] "ValueError.__new__" = true
  k_NoAnswer : PySem.W.keepIn K (.ref C_NoAnswer) = true
  b_NoAnswer : PySem.W.subIn K (.ref C_NoAnswer) (.type "BaseException") = some true
  t_NoAnswer : PySem.W.typeIn K (.ref C_NoAnswer) = some (.type "type")
  E_NoAnswer : ExcC K C_NoAnswer
  C_NoRecords : Addr
  g_NoRecords : mg "NoRecords" = some (.ref C_NoRecords)
  C_NoName : Addr
  g_NoName : mg "NoName" = some (.ref C_NoName)
  C_NoNumber : Addr
  g_NoNumber : mg "NoNumber" = some (.ref C_NoNumber)
  C_NoSlot : Addr
  g_NoSlot : mg "NoSlot" = some (.ref C_NoSlot)
  C_NoJob : Addr
  g_NoJob : mg "NoJob" = some (.ref C_NoJob)
  C_NoDeck : Addr
  g_NoDeck : mg "NoDeck" = some (.ref C_NoDeck)
  C_NoPrinter : Addr
  g_NoPrinter : mg "NoPrinter" = some (.ref C_NoPrinter)
  C_NoDrive : Addr
  g_NoDrive : mg "NoDrive" = some (.ref C_NoDrive)
  C_NoVolume : Addr
  g_NoVolume : mg "NoVolume" = some (.ref C_NoVolume)
  C_NoAccount : Addr
  g_NoAccount : mg "NoAccount" = some (.ref C_NoAccount)
  C_NoEvents : Addr
  g_NoEvents : mg "NoEvents" = some (.ref C_NoEvents)
  C_IsUp : Addr
  g_IsUp : mg "IsUp" = some (.ref C_IsUp)
  C_IsDown : Addr
  g_IsDown : mg "IsDown" = some (.ref C_IsDown)
  C_NoChoices : Addr
  g_NoChoices : mg "NoChoices" = some (.ref C_NoChoices)
  C_NoRoom : Addr
  g_NoRoom : mg "NoRoom" = some (.ref C_NoRoom)
  C_NoWords : Addr
  g_NoWords : mg "NoWords" = some (.ref C_NoWords)
  C_NoValue : Addr
  g_NoValue : mg "NoValue" = some (.ref C_NoValue)
  C_NoText : Addr
  g_NoText : mg "NoText" = some (.ref C_NoText)
  C_Busy : Addr
  g_Busy : mg "Busy" = some (.ref C_Busy)
  C_TooDear : Addr
  g_TooDear : mg "TooDear" = some (.ref C_TooDear)
  C_YardError : Addr
  g_YardError : mg "YardError" = some (.ref C_YardError)
  e_NoAnswer_YardError : PySem.W.exmOne K (.ref C_NoAnswer) (.ref C_YardError) = some true
  e_NoCode_YardError : PySem.W.exmOne K (.ref C_NoCode) (.ref C_YardError) = some true
  q_NoAnswer_Busy : PySem.W.kitOne K (.ref C_NoAnswer) (.ref C_Busy) = some false
  q_NoAnswer_IsDown : PySem.W.kitOne K (.ref C_NoAnswer) (.ref C_IsDown) = some false
  q_NoAnswer_IsUp : PySem.W.kitOne K (.ref C_NoAnswer) (.ref C_IsUp) = some false
  q_NoAnswer_NoAccount : PySem.W.kitOne K (.ref C_NoAnswer) (.ref C_NoAccount) = some false
  q_NoAnswer_NoAnswer : PySem.W.kitOne K (.ref C_NoAnswer) (.ref C_NoAnswer) = some true
  q_NoAnswer_NoChoices : PySem.W.kitOne K (.ref C_NoAnswer) (.ref C_NoChoices) = some false
  q_NoAnswer_NoCode : PySem.W.kitOne K (.ref C_NoAnswer) (.ref C_NoCode) = some false
  q_NoAnswer_NoDeck : PySem.W.kitOne K (.ref C_NoAnswer) (.ref C_NoDeck) = some false
  q_NoAnswer_NoDrive : PySem.W.kitOne K (.ref C_NoAnswer) (.ref C_NoDrive) = some false
  q_NoAnswer_NoEvents : PySem.W.kitOne K (.ref C_NoAnswer) (.ref C_NoEvents) = some false
  q_NoAnswer_NoJob : PySem.W.kitOne K (.ref C_NoAnswer) (.ref C_NoJob) = some false
  q_NoAnswer_NoName : PySem.W.kitOne K (.ref C_NoAnswer) (.ref C_NoName) = some false
  q_NoAnswer_NoNumber : PySem.W.kitOne K (.ref C_NoAnswer) (.ref C_NoNumber) = some false
  q_NoAnswer_NoPrinter : PySem.W.kitOne K (.ref C_NoAnswer) (.ref C_NoPrinter) = some false
  q_NoAnswer_NoRecords : PySem.W.kitOne K (.ref C_NoAnswer) (.ref C_NoRecords) = some false
  q_NoAnswer_NoRoom : PySem.W.kitOne K (.ref C_NoAnswer) (.ref C_NoRoom) = some false
  q_NoAnswer_NoSlot : PySem.W.kitOne K (.ref C_NoAnswer) (.ref C_NoSlot) = some false
  q_NoAnswer_NoText : PySem.W.kitOne K (.ref C_NoAnswer) (.ref C_NoText) = some false
  q_NoAnswer_NoValue : PySem.W.kitOne K (.ref C_NoAnswer) (.ref C_NoValue) = some false
  q_NoAnswer_NoVolume : PySem.W.kitOne K (.ref C_NoAnswer) (.ref C_NoVolume) = some false
  q_NoAnswer_NoWords : PySem.W.kitOne K (.ref C_NoAnswer) (.ref C_NoWords) = some false
  q_NoAnswer_TooDear : PySem.W.kitOne K (.ref C_NoAnswer) (.ref C_TooDear) = some false
  q_NoCode_Busy : PySem.W.kitOne K (.ref C_NoCode) (.ref C_Busy) = some false
  q_NoCode_IsDown : PySem.W.kitOne K (.ref C_NoCode) (.ref C_IsDown) = some false
  q_NoCode_IsUp : PySem.W.kitOne K (.ref C_NoCode) (.ref C_IsUp) = some false
  q_NoCode_NoAccount : PySem.W.kitOne K (.ref C_NoCode) (.ref C_NoAccount) = some false
  q_NoCode_NoAnswer : PySem.W.kitOne K (.ref C_NoCode) (.ref C_NoAnswer) = some false
  q_NoCode_NoChoices : PySem.W.kitOne K (.ref C_NoCode) (.ref C_NoChoices) = some false
  q_NoCode_NoCode : PySem.W.kitOne K (.ref C_NoCode) (.ref C_NoCode) = some true
  q_NoCode_NoDeck : PySem.W.kitOne K (.ref C_NoCode) (.ref C_NoDeck) = some false
  q_NoCode_NoDrive : PySem.W.kitOne K (.ref C_NoCode) (.ref C_NoDrive) = some false
  q_NoCode_NoEvents : PySem.W.kitOne K (.ref C_NoCode) (.ref C_NoEvents) = some false
  q_NoCode_NoJob : PySem.W.kitOne K (.ref C_NoCode) (.ref C_NoJob) = some false
  q_NoCode_NoName : PySem.W.kitOne K (.ref C_NoCode) (.ref C_NoName) = some false
  q_NoCode_NoNumber : PySem.W.kitOne K (.ref C_NoCode) (.ref C_NoNumber) = some false
  q_NoCode_NoPrinter : PySem.W.kitOne K (.ref C_NoCode) (.ref C_NoPrinter) = some false
  q_NoCode_NoRecords : PySem.W.kitOne K (.ref C_NoCode) (.ref C_NoRecords) = some false
  q_NoCode_NoRoom : PySem.W.kitOne K (.ref C_NoCode) (.ref C_NoRoom) = some false
  q_NoCode_NoSlot : PySem.W.kitOne K (.ref C_NoCode) (.ref C_NoSlot) = some false
  q_NoCode_NoText : PySem.W.kitOne K (.ref C_NoCode) (.ref C_NoText) = some false
  q_NoCode_NoValue : PySem.W.kitOne K (.ref C_NoCode) (.ref C_NoValue) = some false
  q_NoCode_NoVolume : PySem.W.kitOne K (.ref C_NoCode) (.ref C_NoVolume) = some false
  q_NoCode_NoWords : PySem.W.kitOne K (.ref C_NoCode) (.ref C_NoWords) = some false
  q_NoCode_TooDear : PySem.W.kitOne K (.ref C_NoCode) (.ref C_TooDear) = some false
  q_NoAnswer_ValueError : PySem.W.kitOne K (.ref C_NoAnswer) (.type "ValueError") = some true
  q_NoCode_ValueError : PySem.W.kitOne K (.ref C_NoCode) (.type "ValueError") = some true
  co_law : Addr
  cd_law : d_law.code = .ref co_law
  P_law : Addr
def Tx.cl {K : PySem.W.Frag} {w : World} {mg : Str → Option Value} (T : Tx K w mg) : Nat → Addr
  | 0 => T.C_NoAnswer
  | _ => T.C_NoCode
theorem Tx.kit_Busy {K : PySem.W.Frag} {w : World} {mg : Str → Option Value} (T : Tx K w mg) : ∀ c, PySem.W.kitOne K (.ref (T.cl c)) (.ref T.C_Busy) = some (kin_Busy c)
  | 0 => T.q_NoAnswer_Busy
  | _ + 1 => T.q_NoCode_Busy
theorem Tx.kit_IsDown {K : PySem.W.Frag} {w : World} {mg : Str → Option Value} (T : Tx K w mg) : ∀ c, PySem.W.kitOne K (.ref (T.cl c)) (.ref T.C_IsDown) = some (kin_IsDown c)
  | 0 => T.q_NoAnswer_IsDown
  | _ + 1 => T.q_NoCode_IsDown
theorem Tx.kit_IsUp {K : PySem.W.Frag} {w : World} {mg : Str → Option Value} (T : Tx K w mg) : ∀ c, PySem.W.kitOne K (.ref (T.cl c)) (.ref T.C_IsUp) = some (kin_IsUp c)
  | 0 => T.q_NoAnswer_IsUp
  | _ + 1 => T.q_NoCode_IsUp
theorem Tx.kit_NoAccount {K : PySem.W.Frag} {w : World} {mg : Str → Option Value} (T : Tx K w mg) : ∀ c, PySem.W.kitOne K (.ref (T.cl c)) (.ref T.C_NoAccount) = some (kin_NoAccount c)
  | 0 => T.q_NoAnswer_NoAccount
  | _ + 1 => T.q_NoCode_NoAccount
theorem Tx.kit_NoAnswer {K : PySem.W.Frag} {w : World} {mg : Str → Option Value} (T : Tx K w mg) : ∀ c, PySem.W.kitOne K (.ref (T.cl c)) (.ref T.C_NoAnswer) = some (kin_NoAnswer c)
  | 0 => T.q_NoAnswer_NoAnswer
  | _ + 1 => T.q_NoCode_NoAnswer
theorem Tx.kit_NoChoices {K : PySem.W.Frag} {w : World} {mg : Str → Option Value} (T : Tx K w mg) : ∀ c, PySem.W.kitOne K (.ref (T.cl c)) (.ref T.C_NoChoices) = some (kin_NoChoices c)
  | 0 => T.q_NoAnswer_NoChoices
  | _ + 1 => T.q_NoCode_NoChoices
theorem Tx.kit_NoCode {K : PySem.W.Frag} {w : World} {mg : Str → Option Value} (T : Tx K w mg) : ∀ c, PySem.W.kitOne K (.ref (T.cl c)) (.ref T.C_NoCode) = some (kin_NoCode c)
  | 0 => T.q_NoAnswer_NoCode
  | _ + 1 => T.q_NoCode_NoCode
theorem Tx.kit_NoDeck {K : PySem.W.Frag} {w : World} {mg : Str → Option Value} (T : Tx K w mg) : ∀ c, PySem.W.kitOne K (.ref (T.cl c)) (.ref T.C_NoDeck) = some (kin_NoDeck c)
  | 0 => T.q_NoAnswer_NoDeck
  | _ + 1 => T.q_NoCode_NoDeck
theorem Tx.kit_NoDrive {K : PySem.W.Frag} {w : World} {mg : Str → Option Value} (T : Tx K w mg) : ∀ c, PySem.W.kitOne K (.ref (T.cl c)) (.ref T.C_NoDrive) = some (kin_NoDrive c)
  | 0 => T.q_NoAnswer_NoDrive
  | _ + 1 => T.q_NoCode_NoDrive
theorem Tx.kit_NoEvents {K : PySem.W.Frag} {w : World} {mg : Str → Option Value} (T : Tx K w mg) : ∀ c, PySem.W.kitOne K (.ref (T.cl c)) (.ref T.C_NoEvents) = some (kin_NoEvents c)
  | 0 => T.q_NoAnswer_NoEvents
  | _ + 1 => T.q_NoCode_NoEvents
theorem Tx.kit_NoJob {K : PySem.W.Frag} {w : World} {mg : Str → Option Value} (T : Tx K w mg) : ∀ c, PySem.W.kitOne K (.ref (T.cl c)) (.ref T.C_NoJob) = some (kin_NoJob c)
  | 0 => T.q_NoAnswer_NoJob
  | _ + 1 => T.q_NoCode_NoJob
theorem Tx.kit_NoName {K : PySem.W.Frag} {w : World} {mg : Str → Option Value} (T : Tx K w mg) : ∀ c, PySem.W.kitOne K (.ref (T.cl c)) (.ref T.C_NoName) = some (kin_NoName c)
  | 0 => T.q_NoAnswer_NoName
  | _ + 1 => T.q_NoCode_NoName
theorem Tx.kit_NoNumber {K : PySem.W.Frag} {w : World} {mg : Str → Option Value} (T : Tx K w mg) : ∀ c, PySem.W.kitOne K (.ref (T.cl c)) (.ref T.C_NoNumber) = some (kin_NoNumber c)
  | 0 => T.q_NoAnswer_NoNumber
  | _ + 1 => T.q_NoCode_NoNumber
theorem Tx.kit_NoPrinter {K : PySem.W.Frag} {w : World} {mg : Str → Option Value} (T : Tx K w mg) : ∀ c, PySem.W.kitOne K (.ref (T.cl c)) (.ref T.C_NoPrinter) = some (kin_NoPrinter c)
  | 0 => T.q_NoAnswer_NoPrinter
  | _ + 1 => T.q_NoCode_NoPrinter
theorem Tx.kit_NoRecords {K : PySem.W.Frag} {w : World} {mg : Str → Option Value} (T : Tx K w mg) : ∀ c, PySem.W.kitOne K (.ref (T.cl c)) (.ref T.C_NoRecords) = some (kin_NoRecords c)
  | 0 => T.q_NoAnswer_NoRecords
  | _ + 1 => T.q_NoCode_NoRecords
theorem Tx.kit_NoRoom {K : PySem.W.Frag} {w : World} {mg : Str → Option Value} (T : Tx K w mg) : ∀ c, PySem.W.kitOne K (.ref (T.cl c)) (.ref T.C_NoRoom) = some (kin_NoRoom c)
  | 0 => T.q_NoAnswer_NoRoom
  | _ + 1 => T.q_NoCode_NoRoom
theorem Tx.kit_NoSlot {K : PySem.W.Frag} {w : World} {mg : Str → Option Value} (T : Tx K w mg) : ∀ c, PySem.W.kitOne K (.ref (T.cl c)) (.ref T.C_NoSlot) = some (kin_NoSlot c)
  | 0 => T.q_NoAnswer_NoSlot
  | _ + 1 => T.q_NoCode_NoSlot
theorem Tx.kit_NoText {K : PySem.W.Frag} {w : World} {mg : Str → Option Value} (T : Tx K w mg) : ∀ c, PySem.W.kitOne K (.ref (T.cl c)) (.ref T.C_NoText) = some (kin_NoText c)
  | 0 => T.q_NoAnswer_NoText
  | _ + 1 => T.q_NoCode_NoText
theorem Tx.kit_NoValue {K : PySem.W.Frag} {w : World} {mg : Str → Option Value} (T : Tx K w mg) : ∀ c, PySem.W.kitOne K (.ref (T.cl c)) (.ref T.C_NoValue) = some (kin_NoValue c)
  | 0 => T.q_NoAnswer_NoValue
  | _ + 1 => T.q_NoCode_NoValue
theorem Tx.kit_NoVolume {K : PySem.W.Frag} {w : World} {mg : Str → Option Value} (T : Tx K w mg) : ∀ c, PySem.W.kitOne K (.ref (T.cl c)) (.ref T.C_NoVolume) = some (kin_NoVolume c)
  | 0 => T.q_NoAnswer_NoVolume
  | _ + 1 => T.q_NoCode_NoVolume
theorem Tx.kit_NoWords {K : PySem.W.Frag} {w : World} {mg : Str → Option Value} (T : Tx K w mg) : ∀ c, PySem.W.kitOne K (.ref (T.cl c)) (.ref T.C_NoWords) = some (kin_NoWords c)
  | 0 => T.q_NoAnswer_NoWords
  | _ + 1 => T.q_NoCode_NoWords
theorem Tx.kit_TooDear {K : PySem.W.Frag} {w : World} {mg : Str → Option Value} (T : Tx K w mg) : ∀ c, PySem.W.kitOne K (.ref (T.cl c)) (.ref T.C_TooDear) = some (kin_TooDear c)
  | 0 => T.q_NoAnswer_TooDear
  | _ + 1 => T.q_NoCode_TooDear
theorem Tx.kit_ValueError {K : PySem.W.Frag} {w : World} {mg : Str → Option Value} (T : Tx K w mg) : ∀ c, PySem.W.kitOne K (.ref (T.cl c)) (.type "ValueError") = some (kin_ValueError c)
  | 0 => T.q_NoAnswer_ValueError
  | _ + 1 => T.q_NoCode_ValueError
theorem Tx.E {K : PySem.W.Frag} {w : World} {mg : Str → Option Value} (T : Tx K w mg) : ∀ c, ExcC K (T.cl c)
  | 0 => T.E_NoAnswer
  | _ + 1 => T.E_NoCode
theorem Tx.exm_YardError {K : PySem.W.Frag} {w : World} {mg : Str → Option Value} (T : Tx K w mg) : ∀ c, PySem.W.exmOne K (.ref (T.cl c)) (.ref T.C_YardError) = some true
  | 0 => T.e_NoAnswer_YardError
  | _ + 1 => T.e_NoCode_YardError
structure TB {K : PySem.W.Frag} {w : World} {mg : Str → Option Value} (T : Tx K w mg) (base : Heap) : Prop where
  b_law : LamX.TabB base mg T.co_law T.P_law
  m_law : (T.P_law, (envOfC "law" (defScope s_law) 0 0 .none).qual ++ "<lambda>") ∈ TabQ.tabs
  u_law : ∀ p ∈ TabQ.tabs, p.1 = T.P_law → p.2 = (envOfC "law" (defScope s_law) 0 0 .none).qual ++ "<lambda>"
section
variable {P : Program} {w : World} {K : PySem.W.Frag} {mg : Str → Option Value} {base : Heap}
theorem ok_is_whole (T : Tx K w mg) : FnOk P w K mg base CX0 1 T.f_is_whole T.d_is_whole ["thing", "low", "high"] (spM K 3 m_is_whole) :=
  def_ok (N := N_is_whole) T.F_is_whole sc_is_whole fun cdv A outer s H E hr => ⟨_,
  (pss_one (ps_ret (pe_and (pe_callB call_isi (by rfl) T.n_isinstance (by decide +kernel) (pa_cons (pv 0) (pa_cons (pe_bltn (v := .ty "int") (by rfl) T.n_int (by decide +kernel) rfl) pa_nil))) (pe_and (pe_not (pe_callB call_isi (by rfl) T.n_isinstance (by decide +kernel) (pa_cons (pv 0) (pa_cons (pe_bltn (v := .ty "bool") (by rfl) T.n_bool (by decide +kernel) rfl) pa_nil)))) (pe_one (pe_chain op_le op_le (pv 1) (pv 0) (pv 2))))))),
  ((st_ret (ev_andV (ev_isi cls_int (ev_var 0)) (ev_andV (ev_notV (ev_isi cls_bool (ev_var 0))) (ev_chain rd_le' rd_le' (ev_var 1) (ev_var 0) (ev_var 2))))) : TSm K _ b_is_whole)⟩
theorem ok_is_word (T : Tx K w mg) : FnOk P w K mg base CX0 2 T.f_is_word T.d_is_word ["thing"] (spM K 1 m_is_word) :=
  def_ok (N := N_is_word) T.F_is_word sc_is_word fun cdv A outer s H E hr => ⟨_,
  (pss_one (ps_ret (pe_call (ok_is_whole T) (hr.mono (by decide)) (by rfl) T.g_is_whole T.F_is_whole.kp T.b_is_whole .nil pass0 (pa_cons (pv 0) (pa_cons pe_int (pa_cons (pe_glob (v := .int (9999)) (by rfl) T.c_GREATEST_WORD ⟨_, rfl⟩) pa_nil)))))),
  ((st_ret (ev_call' (ea_cons (ev_var 0) (ea_cons ev_int (ea_cons ev_int ea_nil))))) : TSm K _ b_is_word)⟩
theorem ok_is_record (T : Tx K w mg) : FnOk P w K mg base CX0 3 T.f_is_record T.d_is_record ["thing"] (spM K 1 m_is_record) :=
  def_ok (N := N_is_record) T.F_is_record sc_is_record fun cdv A outer s H E hr => ⟨_,
  (pss_cons (ps_if (PW.pt (pw_or (pt_not (pt_tr (pe_callB call_isi (by rfl) T.n_isinstance (by decide +kernel) (pa_cons (pv 0) (pa_cons (pe_bltn (v := .ty "tuple") (by rfl) T.n_tuple (by decide +kernel) rfl) pa_nil))) (fun _ => rfl))) (pw_or1 (pt_not (pt_chain op_le op_le pe_int (pe_callB cr_len (by rfl) T.n_len (by decide +kernel) (pa_cons (pv 0) pa_nil)) (pe_glob (v := .int (8)) (by rfl) T.c_MOST_WORDS ⟨_, rfl⟩)))))) (pss_one (ps_ret pe_bl)) pss_nil)
  (pss_one (ps_ret (pe_callB (cr_all rfl) (by rfl) T.n_all (by decide +kernel) (pa_cons (pe_lc (own := [("part", 1)]) (g := gName 1) (tt := tYes) rfl sc_is_record.nd (pi_any (pv 0)) (blkOk_by (N := N_is_record) (sc := defScope s_is_record) (by decide +kernel)) (fun _ _ _ _ _ => (pg_name (i := 1) sc_is_record.nd rfl (.inl rfl))) (fun _ _ _ _ _ => pts_nil) (fun _ _ _ _ _ => (pe_call (ok_is_word T) (hr.mono (by decide)) (by rfl) T.g_is_word T.F_is_word.kp T.b_is_word .nil pass0 (pa_cons (pv 1) pa_nil)))) pa_nil))))),
  ((st_seq (st_if (et_or (et_not (et_tru (ev_isi cls_tuple (ev_var 0)))) (et_not (et_test (ev_chain rd_le' rd_le' ev_int (ev_cb cd_len (ea_cons (ev_var 0) ea_nil)) ev_int))))
  (st_ret ev_bl)
  st_next)
  (st_ret (ev_cb cd_all (ea_cons (ev_list (fl_lc (vs := [1]) (it_any (ev_var 0)) (tg_name 1 (by decide)) et_yes (ev_call' (ea_cons (ev_var 1) ea_nil)))) ea_nil)))) : TSm K _ b_is_record)⟩
theorem ok__is_row (T : Tx K w mg) : FnOk P w K mg base CX0 2 T.f__is_row T.d__is_row ["thing"] (spM K 1 m__is_row) :=
  def_ok (N := N__is_row) T.F__is_row sc__is_row fun cdv A outer s H E hr => ⟨_,
  (pss_cons (ps_if (PW.pt (pw_or (pt_not (pt_tr (pe_callB call_isi (by rfl) T.n_isinstance (by decide +kernel) (pa_cons (pv 0) (pa_cons (pe_bltn (v := .ty "tuple") (by rfl) T.n_tuple (by decide +kernel) rfl) pa_nil))) (fun _ => rfl))) (pw_or1 (pt_not (pt_chain op_le op_le pe_int (pe_callB cr_len (by rfl) T.n_len (by decide +kernel) (pa_cons (pv 0) pa_nil)) (pe_glob (v := .int (6)) (by rfl) T.c_MOST_ROW ⟨_, rfl⟩)))))) (pss_one (ps_ret pe_bl)) pss_nil)
  (pss_one (ps_ret (pe_callB (cr_all rfl) (by rfl) T.n_all (by decide +kernel) (pa_cons (pe_lc (own := [("part", 1)]) (g := gName 1) (tt := tYes) rfl sc__is_row.nd (pi_any (pv 0)) (blkOk_by (N := N__is_row) (sc := defScope s__is_row) (by decide +kernel)) (fun _ _ _ _ _ => (pg_name (i := 1) sc__is_row.nd rfl (.inl rfl))) (fun _ _ _ _ _ => pts_nil) (fun _ _ _ _ _ => (pe_call (ok_is_whole T) (hr.mono (by decide)) (by rfl) T.g_is_whole T.F_is_whole.kp T.b_is_whole .nil pass0 (pa_cons (pv 1) (pa_cons pe_int (pa_cons (pe_ix (ix_getK T.C_GREATEST) (pe_glob (v := .ref T.k_GREATEST) (by rfl) T.c_GREATEST rfl) pe_str (fun _ _ => rfl)) pa_nil)))))) pa_nil))))),
  ((st_seq (st_if (et_or (et_not (et_tru (ev_isi cls_tuple (ev_var 0)))) (et_not (et_test (ev_chain rd_le' rd_le' ev_int (ev_cb cd_len (ea_cons (ev_var 0) ea_nil)) ev_int))))
  (st_ret ev_bl)
  st_next)
  (st_ret (ev_cb cd_all (ea_cons (ev_list (fl_lc (vs := [1]) (it_any (ev_var 0)) (tg_name 1 (by decide)) et_yes (ev_call' (ea_cons (ev_var 1) (ea_cons ev_int (ea_cons (ev_getK T.C_GREATEST ev_str) ea_nil)))))) ea_nil)))) : TSm K _ b__is_row)⟩
theorem ok__is_part (T : Tx K w mg) : FnOk P w K mg base CX0 3 T.f__is_part T.d__is_part ["thing", "kind", "many"] (spM K 3 m__is_part) :=
  def_ok (N := N__is_part) T.F__is_part sc__is_part fun cdv A outer s H E hr => ⟨_,
  (pss_cons (ps_if (pt_cmpR (op_eqD hr.units) (pv 1) pe_str (nomark _)) (pss_one (ps_ret (pe_call (ok__is_row T) (hr.mono (by decide)) (by rfl) T.g__is_row T.F__is_row.kp T.b__is_row .nil pass0 (pa_cons (pv 0) pa_nil)))) pss_nil)
  (pss_cons (ps_if (pt_cmpR (op_eqD hr.units) (pv 1) pe_str (nomark _)) (pss_one (ps_ret (pe_call (ok_is_word T) (hr.mono (by decide)) (by rfl) T.g_is_word T.F_is_word.kp T.b_is_word .nil pass0 (pa_cons (pv 0) pa_nil)))) pss_nil)
  (pss_cons (ps_if (pt_cmpR (op_eqD hr.units) (pv 1) pe_str (nomark _)) (pss_one (ps_ret (pe_call (ok_is_whole T) (hr.mono (by decide)) (by rfl) T.g_is_whole T.F_is_whole.kp T.b_is_whole .nil pass0 (pa_cons (pv 0) (pa_cons pe_int (pa_cons (pe_op op_sub (pv 2) pe_int) pa_nil)))))) pss_nil)
  (pss_one (ps_ret (pe_call (ok_is_whole T) (hr.mono (by decide)) (by rfl) T.g_is_whole T.F_is_whole.kp T.b_is_whole .nil pass0 (pa_cons (pv 0) (pa_cons pe_int (pa_cons (pe_ix (ix_getK T.C_GREATEST) (pe_glob (v := .ref T.k_GREATEST) (by rfl) T.c_GREATEST rfl) (pv 1) (fun _ _ => rfl)) pa_nil))))))))),
  ((st_seq (st_if (et_test (ev_op rd_eq (ev_var 1) ev_str))
  (st_ret (ev_call' (ea_cons (ev_var 0) ea_nil)))
  st_next)
  (st_seq (st_if (et_test (ev_op rd_eq (ev_var 1) ev_str))
  (st_ret (ev_call' (ea_cons (ev_var 0) ea_nil)))
  st_next)
  (st_seq (st_if (et_test (ev_op rd_eq (ev_var 1) ev_str))
  (st_ret (ev_call' (ea_cons (ev_var 0) (ea_cons ev_int (ea_cons (ev_op rd_sub (ev_var 2) ev_int) ea_nil)))))
  st_next)
  (st_ret (ev_call' (ea_cons (ev_var 0) (ea_cons ev_int (ea_cons (ev_getK T.C_GREATEST (ev_var 1)) ea_nil)))))))) : TSm K _ b__is_part)⟩
theorem ok__is_step (T : Tx K w mg) : FnOk P w K mg base CX0 4 T.f__is_step T.d__is_step ["thing", "many"] (spM K 2 m__is_step) :=
  def_ok (N := N__is_step) T.F__is_step sc__is_step fun cdv A outer s H E hr => ⟨_,
  (pss_cons (ps_if (PW.pt (pw_or (pt_not (pt_tr (pe_callB call_isi (by rfl) T.n_isinstance (by decide +kernel) (pa_cons (pv 0) (pa_cons (pe_bltn (v := .ty "tuple") (by rfl) T.n_tuple (by decide +kernel) rfl) pa_nil))) (fun _ => rfl))) (pw_or1 (pt_not (pt_tr (pv 0) (fun _ => rfl)))))) (pss_one (ps_ret pe_bl)) pss_nil)
  (pss_cons (ps_asg (pv 0) (pg_headRest rfl (pg_name (i := 2) sc__is_step.nd rfl (.inl rfl)) (pg_name (i := 3) sc__is_step.nd rfl (.inl rfl))))
  (pss_cons (ps_if (PW.pt (pw_or (pt_not (pt_tr (pe_callB call_isi (by rfl) T.n_isinstance (by decide +kernel) (pa_cons (pv 2) (pa_cons (pe_bltn (v := .ty "str") (by rfl) T.n_str (by decide +kernel) rfl) pa_nil))) (fun _ => rfl))) (pw_or1 (pt_cmpR (op_notInK T.C_PARTS) (pv 2) (pe_glob (v := .ref T.k_PARTS) (by rfl) T.c_PARTS rfl) (by with_unfolding_all rfl))))) (pss_one (ps_ret pe_bl)) pss_nil)
  (pss_cons (ps_set (i := 4) sc__is_step.nd rfl (.inl rfl) (pe_ix (ix_getK T.C_PARTS) (pe_glob (v := .ref T.k_PARTS) (by rfl) T.c_PARTS rfl) (pv 2) (fun _ _ => rfl)))
  (pss_cons (ps_if (pt_cmpR (op_neD hr.units) (pe_callB cr_len (by rfl) T.n_len (by decide +kernel) (pa_cons (pv 3) pa_nil)) (pe_callB cr_len (by rfl) T.n_len (by decide +kernel) (pa_cons (pv 4) pa_nil)) (nomark _)) (pss_one (ps_ret pe_bl)) pss_nil)
  (pss_one (ps_ret (pe_callB (cr_all rfl) (by rfl) T.n_all (by decide +kernel) (pa_cons (pe_lc (own := [("part", 5), ("kind", 6)]) (g := _) (tt := tYes) rfl sc__is_step.nd (pi_zipX (by rfl) T.n_zip (pa_cons (pv 3) (pa_cons (pv 4) pa_nil))) (blkOk_by (N := N__is_step) (sc := defScope s__is_step) (by decide +kernel)) (fun _ _ _ _ _ => (pg_tup rfl (pgs_cons (pg_name (i := 5) sc__is_step.nd rfl (.inl rfl)) (pgs_cons (pg_name (i := 6) sc__is_step.nd rfl (.inl rfl)) pgs_nil)))) (fun _ _ _ _ _ => pts_nil) (fun _ _ _ _ _ => (pe_call (ok__is_part T) (hr.mono (by decide)) (by rfl) T.g__is_part T.F__is_part.kp T.b__is_part .nil pass0 (pa_cons (pv 5) (pa_cons (pv 6) (pa_cons (pv 1) pa_nil)))))) pa_nil))))))))),
  ((st_seq (st_if (et_or (et_not (et_tru (ev_isi cls_tuple (ev_var 0)))) (et_not (et_tru (ev_var 0))))
  (st_ret ev_bl)
  st_next)
  (st_seq (st_asg (vs := [2, 3]) (ev_var 0) (tg_headRest (tg_name 2 (by decide)) (tg_name 3 (by decide))))
  (st_seq (st_if (et_or (et_not (et_tru (ev_isi cls_str (ev_var 2)))) (et_test (ev_notInK T.C_PARTS (ev_var 2))))
  (st_ret ev_bl)
  st_next)
  (st_seq (st_set 4 (ev_getK T.C_PARTS (ev_var 2)))
  (st_seq (st_if (et_test (ev_op rd_ne (ev_cb cd_len (ea_cons (ev_var 3) ea_nil)) (ev_cb cd_len (ea_cons (ev_var 4) ea_nil))))
  (st_ret ev_bl)
  st_next)
  (st_ret (ev_cb cd_all (ea_cons (ev_list (fl_lc (vs := [5, 6]) (it_zipX (ea_cons (ev_var 3) (ea_cons (ev_var 4) ea_nil))) (tg_tup (tgs_cons (tg_name 5 (by decide)) (tgs_cons (tg_name 6 (by decide)) tgs_nil))) et_yes (ev_call' (ea_cons (ev_var 5) (ea_cons (ev_var 6) (ea_cons (ev_var 1) ea_nil)))))) ea_nil)))))))) : TSm K _ b__is_step)⟩
theorem ok_is_code (T : Tx K w mg) : FnOk P w K mg base CX0 5 T.f_is_code T.d_is_code ["thing"] (spM K 1 m_is_code) :=
  def_ok (N := N_is_code) T.F_is_code sc_is_code fun cdv A outer s H E hr => ⟨_,
  (pss_cons (ps_if (PW.pt (pw_or (pt_not (pt_tr (pe_callB call_isi (by rfl) T.n_isinstance (by decide +kernel) (pa_cons (pv 0) (pa_cons (pe_bltn (v := .ty "tuple") (by rfl) T.n_tuple (by decide +kernel) rfl) pa_nil))) (fun _ => rfl))) (pw_or1 (pt_not (pt_chain op_le op_le pe_int (pe_callB cr_len (by rfl) T.n_len (by decide +kernel) (pa_cons (pv 0) pa_nil)) (pe_glob (v := .int (30)) (by rfl) T.c_MOST_STEPS ⟨_, rfl⟩)))))) (pss_one (ps_ret pe_bl)) pss_nil)
  (pss_one (ps_ret (pe_callB (cr_all rfl) (by rfl) T.n_all (by decide +kernel) (pa_cons (pe_lc (own := [("part", 1)]) (g := gName 1) (tt := tYes) rfl sc_is_code.nd (pi_any (pv 0)) (blkOk_by (N := N_is_code) (sc := defScope s_is_code) (by decide +kernel)) (fun _ _ _ _ _ => (pg_name (i := 1) sc_is_code.nd rfl (.inl rfl))) (fun _ _ _ _ _ => pts_nil) (fun _ _ _ _ _ => (pe_call (ok__is_step T) (hr.mono (by decide)) (by rfl) T.g__is_step T.F__is_step.kp T.b__is_step .nil pass0 (pa_cons (pv 1) (pa_cons (pe_callB cr_len (by rfl) T.n_len (by decide +kernel) (pa_cons (pv 0) pa_nil)) pa_nil))))) pa_nil))))),
  ((st_seq (st_if (et_or (et_not (et_tru (ev_isi cls_tuple (ev_var 0)))) (et_not (et_test (ev_chain rd_le' rd_le' ev_int (ev_cb cd_len (ea_cons (ev_var 0) ea_nil)) ev_int))))
  (st_ret ev_bl)
  st_next)
  (st_ret (ev_cb cd_all (ea_cons (ev_list (fl_lc (vs := [1]) (it_any (ev_var 0)) (tg_name 1 (by decide)) et_yes (ev_call' (ea_cons (ev_var 1) (ea_cons (ev_cb cd_len (ea_cons (ev_var 0) ea_nil)) ea_nil))))) ea_nil)))) : TSm K _ b_is_code)⟩
theorem ok_demand_code (T : Tx K w mg) : FnOk P w K mg base (L2.CX P w) 6 T.f_demand_code T.d_demand_code ["thing"] (spX K T.cl 1 m_demand_code) :=
  def_okX (cl := T.cl) (N := N_demand_code) T.F_demand_code sc_demand_code fun cdv A outer s H E hr => ⟨_,
  (pss_one (ps_if (pt_not (pt_tr (pe_call (ok_is_code T) (hr.mono (by decide)) (by rfl) T.g_is_code T.F_is_code.kp T.b_is_code .nil pass0 (pa_cons (pv 0) pa_nil)) (fun _ => rfl))) (pss_one (ps_raise rfl (takes_of rfl rfl rfl rfl) (pmk_own PySem.F.excBase_ValueError T.x_NoCode T.g_NoCode T.k_NoCode (raises_own T.b_NoCode T.t_NoCode) (by rfl)))) pss_nil)),
  ((sx_if (et_not (et_tru (ev_call' (ea_cons (ev_var 0) ea_nil))))
  (sx_raise 1)
  (sx_lift st_next)) : SX K T.cl _ b_demand_code)⟩
theorem ok_begun (T : Tx K w mg) : FnOk P w K mg base (L2.CX P w) 7 T.f_begun T.d_begun ["code", "parameters"] (spX K T.cl 2 m_begun) :=
  def_okX (cl := T.cl) (N := N_begun) T.F_begun sc_begun fun cdv A outer s H E hr => ⟨_,
  (pss_cons (ps_expr (pe_callS (ok_demand_code T) (hr.mono (by decide)) (by rfl) T.g_demand_code T.F_demand_code.kp T.b_demand_code (fun σ => passAt (takes_of rfl rfl rfl rfl) σ) (pa_cons (pv 0) pa_nil)))
  (pss_cons (ps_set (i := 2) sc_begun.nd rfl (.inl rfl) (pe_op op_mulA (pe_tup (pa_cons pe_int pa_nil)) (pe_op op_sub (pe_glob (v := .int (8)) (by rfl) T.c_MANY_REGISTERS ⟨_, rfl⟩) (pe_callB cr_len (by rfl) T.n_len (by decide +kernel) (pa_cons (pv 1) pa_nil)))))
  (pss_one (ps_ret (pe_tup (pa_cons (pv 0) (pa_cons pe_int (pa_cons (pe_tup (StX.pa_star (pv 1) (StX.pa_star (pv 2) pa_nil))) (pa_cons (pe_op op_mulA (pe_tup (pa_cons pe_non pa_nil)) (pe_glob (v := .int (6)) (by rfl) T.c_MANY_CARDS ⟨_, rfl⟩)) (pa_cons (pe_op op_mulA (pe_tup (pa_cons pe_bl pa_nil)) (pe_glob (v := .int (6)) (by rfl) T.c_MANY_CARDS ⟨_, rfl⟩)) (pa_cons pe_non pa_nil))))))))))),
  ((sx_seq (sx_drop (ex_call (ea_cons (ev_var 0) ea_nil)))
  (sx_seq (sx_lift (st_set 2 (ev_op rd_mul (ev_tup (ea_cons ev_int ea_nil)) (ev_op rd_sub ev_int (ev_cb cd_len (ea_cons (ev_var 1) ea_nil))))))
  (sx_lift (st_ret (ev_tup (ea_cons (ev_var 0) (ea_cons ev_int (ea_cons (ev_tup (ea_star (ev_var 1) (ea_star (ev_var 2) ea_nil))) (ea_cons (ev_op rd_mul (ev_tup (ea_cons ev_non ea_nil)) ev_int) (ea_cons (ev_op rd_mul (ev_tup (ea_cons ev_bl ea_nil)) ev_int) (ea_cons ev_non ea_nil))))))))))) : SX K T.cl _ b_begun)⟩
theorem ok__fits (T : Tx K w mg) : FnOk P w K mg base CX0 4 T.f__fits T.d__fits ["waits", "answer"] (spM K 2 m__fits) :=
  def_ok (N := N__fits) T.F__fits sc__fits fun cdv A outer s H E hr => ⟨_,
  (pss_cons (ps_if (PW.pt (pw_or (pt_not (pt_tr (pe_callB call_isi (by rfl) T.n_isinstance (by decide +kernel) (pa_cons (pv 1) (pa_cons (pe_bltn (v := .ty "tuple") (by rfl) T.n_tuple (by decide +kernel) rfl) pa_nil))) (fun _ => rfl))) (pw_or (pt_cmpR (op_neD hr.units) (pe_callB cr_len (by rfl) T.n_len (by decide +kernel) (pa_cons (pv 1) pa_nil)) pe_int (nomark _)) (pw_or1 (pt_cmpR (op_neD hr.units) (pe_ix ix_seq (pv 1) pe_int (fun _ _ => rfl)) pe_str (nomark _)))))) (pss_one (ps_ret pe_bl)) pss_nil)
  (pss_cons (ps_if (pt_cmpR (op_eqD hr.units) (pe_ix ix_seq (pv 0) pe_int (fun _ _ => rfl)) pe_str (nomark _)) (pss_one (ps_ret (pe_or (pe_cmpR op_isA (pe_ix ix_seq (pv 1) pe_int (fun _ _ => rfl)) pe_non (nomark _)) (pe_one (pe_call (ok_is_record T) (hr.mono (by decide)) (by rfl) T.g_is_record T.F_is_record.kp T.b_is_record .nil pass0 (pa_cons (pe_ix ix_seq (pv 1) pe_int (fun _ _ => rfl)) pa_nil)))))) pss_nil)
  (pss_one (ps_ret (pe_and (pe_cmpR op_in_seq (pe_ix ix_seq (pv 0) pe_int (fun _ _ => rfl)) (pe_tup (pa_cons pe_str (pa_cons pe_str (pa_cons pe_str pa_nil)))) (by with_unfolding_all rfl)) (pe_one (pe_cmpR op_isBA (pe_ix ix_seq (pv 1) pe_int (fun _ _ => rfl)) pe_bl (nomark _)))))))),
  ((st_seq (st_if (et_or (et_not (et_tru (ev_isi cls_tuple (ev_var 1)))) (et_or (et_test (ev_op rd_ne (ev_cb cd_len (ea_cons (ev_var 1) ea_nil)) ev_int)) (et_test (ev_op rd_ne (ev_op rd_ix (ev_var 1) ev_int) ev_str))))
  (st_ret ev_bl)
  st_next)
  (st_seq (st_if (et_test (ev_op rd_eq (ev_op rd_ix (ev_var 0) ev_int) ev_str))
  (st_ret (ev_orV (ev_op rd_is (ev_op rd_ix (ev_var 1) ev_int) ev_non) (ev_call' (ea_cons (ev_op rd_ix (ev_var 1) ev_int) ea_nil))))
  st_next)
  (st_ret (ev_andV (ev_op (rd_inT (neg := false)) (ev_op rd_ix (ev_var 0) ev_int) (ev_tup (ea_cons ev_str (ea_cons ev_str (ea_cons ev_str ea_nil))))) (ev_op rd_isB (ev_op rd_ix (ev_var 1) ev_int) ev_bl))))) : TSm K _ b__fits)⟩
theorem ok__with_part (T : Tx K w mg) : FnOk P w K mg base CX0 1 T.f__with_part T.d__with_part ["row", "at", "part"] (spM K 3 m__with_part) :=
  def_ok (N := N__with_part) T.F__with_part sc__with_part fun cdv A outer s H E hr => ⟨_,
  (pss_one (ps_ret (pe_tup (StX.pa_star (pe_slice sl_any (pv 0) po_none (po_some (pv 1))) (pa_cons (pv 2) (StX.pa_star (pe_slice sl_any (pv 0) (po_some (pe_op op_addA (pv 1) pe_int)) po_none) pa_nil)))))),
  ((st_ret (ev_tup (ea_star (ev_sl (ev_var 0) po_no (po_part (ev_var 1))) (ea_cons (ev_var 2) (ea_star (ev_sl (ev_var 0) (po_part (ev_op rd_add (ev_var 1) ev_int)) po_no) ea_nil))))) : TSm K _ b__with_part)⟩
theorem ok__further (T : Tx K w mg) : FnOk P w K mg base CX0 2 T.f__further T.d__further ["mind"] (spM K 1 m__further) :=
  def_ok (N := N__further) T.F__further sc__further fun cdv A outer s H E hr => ⟨_,
  (pss_one (ps_ret (pe_call (ok__with_part T) (hr.mono (by decide)) (by rfl) T.g__with_part T.F__with_part.kp T.b__with_part .nil pass0 (pa_cons (pv 0) (pa_cons (pe_glob (v := .int (1)) (by rfl) T.c_PLACE ⟨_, rfl⟩) (pa_cons (pe_op op_addA (pe_ix ix_seq (pv 0) (pe_glob (v := .int (1)) (by rfl) T.c_PLACE ⟨_, rfl⟩) (fun _ _ => rfl)) pe_int) pa_nil)))))),
  ((st_ret (ev_call' (ea_cons (ev_var 0) (ea_cons ev_int (ea_cons (ev_op rd_add (ev_op rd_ix (ev_var 0) ev_int) ev_int) ea_nil))))) : TSm K _ b__further)⟩
theorem ok__with_record (T : Tx K w mg) : FnOk P w K mg base CX0 2 T.f__with_record T.d__with_record ["mind", "card", "record"] (spM K 3 m__with_record) :=
  def_ok (N := N__with_record) T.F__with_record sc__with_record fun cdv A outer s H E hr => ⟨_,
  (pss_cons (ps_set (i := 3) sc__with_record.nd rfl (.inl rfl) (pe_call (ok__with_part T) (hr.mono (by decide)) (by rfl) T.g__with_part T.F__with_part.kp T.b__with_part .nil pass0 (pa_cons (pv 0) (pa_cons (pe_glob (v := .int (3)) (by rfl) T.c_RECORDS ⟨_, rfl⟩) (pa_cons (pe_call (ok__with_part T) (hr.mono (by decide)) (by rfl) T.g__with_part T.F__with_part.kp T.b__with_part .nil pass0 (pa_cons (pe_ix ix_seq (pv 0) (pe_glob (v := .int (3)) (by rfl) T.c_RECORDS ⟨_, rfl⟩) (fun _ _ => rfl)) (pa_cons (pv 1) (pa_cons (pv 2) pa_nil)))) pa_nil)))))
  (pss_one (ps_ret (pe_call (ok__with_part T) (hr.mono (by decide)) (by rfl) T.g__with_part T.F__with_part.kp T.b__with_part .nil pass0 (pa_cons (pv 3) (pa_cons (pe_glob (v := .int (4)) (by rfl) T.c_ENDS ⟨_, rfl⟩) (pa_cons (pe_call (ok__with_part T) (hr.mono (by decide)) (by rfl) T.g__with_part T.F__with_part.kp T.b__with_part .nil pass0 (pa_cons (pe_ix ix_seq (pv 0) (pe_glob (v := .int (4)) (by rfl) T.c_ENDS ⟨_, rfl⟩) (fun _ _ => rfl)) (pa_cons (pv 1) (pa_cons (pe_cmpR op_isA (pv 2) pe_non (nomark _)) pa_nil)))) pa_nil))))))),
  ((st_seq (st_set 3 (ev_call' (ea_cons (ev_var 0) (ea_cons ev_int (ea_cons (ev_call' (ea_cons (ev_op rd_ix (ev_var 0) ev_int) (ea_cons (ev_var 1) (ea_cons (ev_var 2) ea_nil)))) ea_nil)))))
  (st_ret (ev_call' (ea_cons (ev_var 3) (ea_cons ev_int (ea_cons (ev_call' (ea_cons (ev_op rd_ix (ev_var 0) ev_int) (ea_cons (ev_var 1) (ea_cons (ev_op rd_is (ev_var 2) ev_non) ea_nil)))) ea_nil)))))) : TSm K _ b__with_record)⟩
theorem ok__answered (T : Tx K w mg) : FnOk P w K mg base (L2.CX P w) 5 T.f__answered T.d__answered ["mind", "answer"] (spX K T.cl 2 m__answered) :=
  def_okX (cl := T.cl) (N := N__answered) T.F__answered sc__answered fun cdv A outer s H E hr => ⟨_,
  (pss_cons (ps_set (i := 2) sc__answered.nd rfl (.inl rfl) (pe_ix ix_seq (pv 0) (pe_glob (v := .int (5)) (by rfl) T.c_WAITS ⟨_, rfl⟩) (fun _ _ => rfl)))
  (pss_cons (ps_if (pt_not (pt_tr (pe_call (ok__fits T) (hr.mono (by decide)) (by rfl) T.g__fits T.F__fits.kp T.b__fits .nil pass0 (pa_cons (pv 2) (pa_cons (pv 1) pa_nil))) (fun _ => rfl))) (pss_one (ps_raise rfl (takes_of rfl rfl rfl rfl) (pmk_own PySem.F.excBase_ValueError T.x_NoAnswer T.g_NoAnswer T.k_NoAnswer (raises_own T.b_NoAnswer T.t_NoAnswer) (by rfl)))) pss_nil)
  (pss_cons (ps_if (pt_cmpR (op_eqD hr.units) (pe_ix ix_seq (pv 2) pe_int (fun _ _ => rfl)) pe_str (nomark _)) (pss_one (ps_set (i := 0) sc__answered.nd rfl (.inl rfl) (pe_call (ok__with_record T) (hr.mono (by decide)) (by rfl) T.g__with_record T.F__with_record.kp T.b__with_record .nil pass0 (pa_cons (pv 0) (pa_cons (pe_ix ix_seq (pv 2) pe_int (fun _ _ => rfl)) (pa_cons (pe_ix ix_seq (pv 1) pe_int (fun _ _ => rfl)) pa_nil)))))) pss_nil)
  (pss_one (ps_ret (pe_call (ok__further T) (hr.mono (by decide)) (by rfl) T.g__further T.F__further.kp T.b__further .nil pass0 (pa_cons (pe_call (ok__with_part T) (hr.mono (by decide)) (by rfl) T.g__with_part T.F__with_part.kp T.b__with_part .nil pass0 (pa_cons (pv 0) (pa_cons (pe_glob (v := .int (5)) (by rfl) T.c_WAITS ⟨_, rfl⟩) (pa_cons pe_non pa_nil)))) pa_nil))))))),
  ((sx_seq (sx_lift (st_set 2 (ev_op rd_ix (ev_var 0) ev_int)))
  (sx_seq (sx_if (et_not (et_tru (ev_call' (ea_cons (ev_var 2) (ea_cons (ev_var 1) ea_nil)))))
  (sx_raise 0)
  (sx_lift st_next))
  (sx_seq (sx_lift (st_if (et_test (ev_op rd_eq (ev_op rd_ix (ev_var 2) ev_int) ev_str))
  (st_set 0 (ev_call' (ea_cons (ev_var 0) (ea_cons (ev_op rd_ix (ev_var 2) ev_int) (ea_cons (ev_op rd_ix (ev_var 1) ev_int) ea_nil)))))
  st_next))
  (sx_lift (st_ret (ev_call' (ea_cons (ev_call' (ea_cons (ev_var 0) (ea_cons ev_int (ea_cons ev_non ea_nil)))) ea_nil))))))) : SX K T.cl _ b__answered)⟩
theorem ok__asking (T : Tx K w mg) : FnOk P w K mg base CX0 2 T.f__asking T.d__asking ["mind", "asked"] (spM K 2 m__asking) :=
  def_ok (N := N__asking) T.F__asking sc__asking fun cdv A outer s H E hr => ⟨_,
  (pss_one (ps_ret (pe_tup (pa_cons (pe_call (ok__with_part T) (hr.mono (by decide)) (by rfl) T.g__with_part T.F__with_part.kp T.b__with_part .nil pass0 (pa_cons (pv 0) (pa_cons (pe_glob (v := .int (5)) (by rfl) T.c_WAITS ⟨_, rfl⟩) (pa_cons (pv 1) pa_nil)))) (pa_cons (pv 1) pa_nil))))),
  ((st_ret (ev_tup (ea_cons (ev_call' (ea_cons (ev_var 0) (ea_cons ev_int (ea_cons (ev_var 1) ea_nil)))) (ea_cons (ev_var 1) ea_nil)))) : TSm K _ b__asking)⟩
theorem ok__next_place (T : Tx K w mg) : FnOk P w K mg base CX0 1 T.f__next_place T.d__next_place ["mind", "step"] (spM K 2 m__next_place) :=
  def_ok (N := N__next_place) T.F__next_place sc__next_place fun cdv A outer s H E hr => ⟨_,
  (pss_cons (ps_set (i := 2) sc__next_place.nd rfl (.inl rfl) (pe_ix ix_seq (pv 1) pe_int (fun _ _ => rfl)))
  (pss_cons (ps_if (pt_cmpR (op_eqD hr.units) (pv 2) pe_str (nomark _)) (pss_one (ps_ret (pe_ix ix_seq (pv 1) pe_int (fun _ _ => rfl)))) pss_nil)
  (pss_cons (ps_set (i := 3) sc__next_place.nd rfl (.inl rfl) (pe_ifExp (pt_cmpR (op_eqD hr.units) (pv 2) pe_str (nomark _)) (pe_ix ix_seq (pe_ix ix_seq (pv 0) (pe_glob (v := .int (4)) (by rfl) T.c_ENDS ⟨_, rfl⟩) (fun _ _ => rfl)) (pe_ix ix_seq (pv 1) pe_int (fun _ _ => rfl)) (fun _ _ => rfl)) (pe_cmpR (op_neD hr.units) (pe_ix ix_seq (pe_ix ix_seq (pv 0) (pe_glob (v := .int (2)) (by rfl) T.c_REGISTERS ⟨_, rfl⟩) (fun _ _ => rfl)) (pe_ix ix_seq (pv 1) pe_int (fun _ _ => rfl)) (fun _ _ => rfl)) pe_int (nomark _))))
  (pss_one (ps_ret (pe_ifExp (pt_tr (pv 3) (fun _ => rfl)) (pe_ix ix_seq (pv 1) pe_int (fun _ _ => rfl)) (pe_op op_addA (pe_ix ix_seq (pv 0) (pe_glob (v := .int (1)) (by rfl) T.c_PLACE ⟨_, rfl⟩) (fun _ _ => rfl)) pe_int))))))),
  ((st_seq (st_set 2 (ev_op rd_ix (ev_var 1) ev_int))
  (st_seq (st_if (et_test (ev_op rd_eq (ev_var 2) ev_str))
  (st_ret (ev_op rd_ix (ev_var 1) ev_int))
  st_next)
  (st_seq (st_set 3 (ev_if (et_test (ev_op rd_eq (ev_var 2) ev_str)) (ev_op rd_ix (ev_op rd_ix (ev_var 0) ev_int) (ev_op rd_ix (ev_var 1) ev_int)) (ev_op rd_ne (ev_op rd_ix (ev_op rd_ix (ev_var 0) ev_int) (ev_op rd_ix (ev_var 1) ev_int)) ev_int)))
  (st_ret (ev_if (et_tru (ev_var 3)) (ev_op rd_ix (ev_var 1) ev_int) (ev_op rd_add (ev_op rd_ix (ev_var 0) ev_int) ev_int)))))) : TSm K _ b__next_place)⟩
theorem ok__row_of (T : Tx K w mg) : FnOk P w K mg base CX0 1 T.f__row_of T.d__row_of ["registers", "row"] (spM K 2 m__row_of) :=
  def_ok (N := N__row_of) T.F__row_of sc__row_of fun cdv A outer s H E hr => ⟨_,
  (pss_one (ps_ret (pe_callTy cr_tupOf (by rfl) T.n_tuple (by decide +kernel) (pa_cons (pe_lc (own := [("at", 2)]) (g := gName 2) (tt := tYes) rfl sc__row_of.nd (pi_any (pv 1)) (blkOk_by (N := N__row_of) (sc := defScope s__row_of) (by decide +kernel)) (fun _ _ _ _ _ => (pg_name (i := 2) sc__row_of.nd rfl (.inl rfl))) (fun _ _ _ _ _ => pts_nil) (fun _ _ _ _ _ => (pe_ix ix_seq (pv 0) (pv 2) (fun _ _ => rfl)))) pa_nil)))),
  ((st_ret (ev_cb cd_tupOf (ea_cons (ev_list (fl_lc (vs := [2]) (it_any (ev_var 1)) (tg_name 2 (by decide)) et_yes (ev_op rd_ix (ev_var 0) (ev_var 2)))) ea_nil))) : TSm K _ b__row_of)⟩
theorem ok__question (T : Tx K w mg) : FnOk P w K mg base CX0 2 T.f__question T.d__question ["mind", "step"] (spM K 2 m__question) :=
  def_ok (N := N__question) T.F__question sc__question fun cdv A outer s H E hr => ⟨_,
  (pss_cons (ps_set (i := 2) sc__question.nd rfl (.inl rfl) (pe_ix ix_seq (pv 1) pe_int (fun _ _ => rfl)))
  (pss_cons (ps_set (i := 3) sc__question.nd rfl (.inl rfl) (pe_ix ix_seq (pv 0) (pe_glob (v := .int (2)) (by rfl) T.c_REGISTERS ⟨_, rfl⟩) (fun _ _ => rfl)))
  (pss_cons (ps_if (pt_cmpR (op_eqD hr.units) (pv 2) pe_str (nomark _)) (pss_one (ps_ret (pe_tup (pa_cons pe_str (pa_cons (pe_ix ix_seq (pv 1) pe_int (fun _ _ => rfl)) pa_nil))))) pss_nil)
  (pss_cons (ps_if (pt_cmpR (op_eqD hr.units) (pv 2) pe_str (nomark _)) (pss_one (ps_ret (pe_tup (pa_cons pe_str (pa_cons (pe_ix ix_seq (pv 1) pe_int (fun _ _ => rfl)) (pa_cons (pe_call (ok__row_of T) (hr.mono (by decide)) (by rfl) T.g__row_of T.F__row_of.kp T.b__row_of .nil pass0 (pa_cons (pv 3) (pa_cons (pe_ix ix_seq (pv 1) pe_int (fun _ _ => rfl)) pa_nil))) pa_nil)))))) pss_nil)
  (pss_cons (ps_if (pt_cmpR (op_eqD hr.units) (pv 2) pe_str (nomark _)) (pss_one (ps_ret (pe_tup (pa_cons pe_str (pa_cons (pe_call (ok__row_of T) (hr.mono (by decide)) (by rfl) T.g__row_of T.F__row_of.kp T.b__row_of .nil pass0 (pa_cons (pv 3) (pa_cons (pe_ix ix_seq (pv 1) pe_int (fun _ _ => rfl)) pa_nil))) pa_nil))))) pss_nil)
  (pss_cons (ps_if (pt_cmpR (op_eqD hr.units) (pv 2) pe_str (nomark _)) (pss_one (ps_ret (pe_tup (pa_cons pe_str pa_nil)))) pss_nil)
  (pss_one (ps_ret (pe_tup (pa_cons pe_str (pa_cons (pe_ix ix_seq (pv 3) (pe_ix ix_seq (pv 1) pe_int (fun _ _ => rfl)) (fun _ _ => rfl)) pa_nil))))))))))),
  ((st_seq (st_set 2 (ev_op rd_ix (ev_var 1) ev_int))
  (st_seq (st_set 3 (ev_op rd_ix (ev_var 0) ev_int))
  (st_seq (st_if (et_test (ev_op rd_eq (ev_var 2) ev_str))
  (st_ret (ev_tup (ea_cons ev_str (ea_cons (ev_op rd_ix (ev_var 1) ev_int) ea_nil))))
  st_next)
  (st_seq (st_if (et_test (ev_op rd_eq (ev_var 2) ev_str))
  (st_ret (ev_tup (ea_cons ev_str (ea_cons (ev_op rd_ix (ev_var 1) ev_int) (ea_cons (ev_call' (ea_cons (ev_var 3) (ea_cons (ev_op rd_ix (ev_var 1) ev_int) ea_nil))) ea_nil)))))
  st_next)
  (st_seq (st_if (et_test (ev_op rd_eq (ev_var 2) ev_str))
  (st_ret (ev_tup (ea_cons ev_str (ea_cons (ev_call' (ea_cons (ev_var 3) (ea_cons (ev_op rd_ix (ev_var 1) ev_int) ea_nil))) ea_nil))))
  st_next)
  (st_seq (st_if (et_test (ev_op rd_eq (ev_var 2) ev_str))
  (st_ret (ev_tup (ea_cons ev_str ea_nil)))
  st_next)
  (st_ret (ev_tup (ea_cons ev_str (ea_cons (ev_op rd_ix (ev_var 3) (ev_op rd_ix (ev_var 1) ev_int)) ea_nil)))))))))) : TSm K _ b__question)⟩
theorem ok__with_register (T : Tx K w mg) : FnOk P w K mg base CX0 2 T.f__with_register T.d__with_register ["mind", "at", "word"] (spM K 3 m__with_register) :=
  def_ok (N := N__with_register) T.F__with_register sc__with_register fun cdv A outer s H E hr => ⟨_,
  (pss_one (ps_ret (pe_call (ok__with_part T) (hr.mono (by decide)) (by rfl) T.g__with_part T.F__with_part.kp T.b__with_part .nil pass0 (pa_cons (pv 0) (pa_cons (pe_glob (v := .int (2)) (by rfl) T.c_REGISTERS ⟨_, rfl⟩) (pa_cons (pe_call (ok__with_part T) (hr.mono (by decide)) (by rfl) T.g__with_part T.F__with_part.kp T.b__with_part .nil pass0 (pa_cons (pe_ix ix_seq (pv 0) (pe_glob (v := .int (2)) (by rfl) T.c_REGISTERS ⟨_, rfl⟩) (fun _ _ => rfl)) (pa_cons (pv 1) (pa_cons (pv 2) pa_nil)))) pa_nil)))))),
  ((st_ret (ev_call' (ea_cons (ev_var 0) (ea_cons ev_int (ea_cons (ev_call' (ea_cons (ev_op rd_ix (ev_var 0) ev_int) (ea_cons (ev_var 1) (ea_cons (ev_var 2) ea_nil)))) ea_nil))))) : TSm K _ b__with_register)⟩
theorem ok__field_of (T : Tx K w mg) : FnOk P w K mg base CX0 1 T.f__field_of T.d__field_of ["record", "at"] (spM K 2 m__field_of) :=
  def_ok (N := N__field_of) T.F__field_of sc__field_of fun cdv A outer s H E hr => ⟨_,
  (pss_one (ps_ret (pe_ifExp (PW.pt (pw_or (pt_cmpR op_isA (pv 0) pe_non (nomark _)) (pw_or1 (pt_cmpR op_ge (pv 1) (pe_callB cr_len (by rfl) T.n_len (by decide +kernel) (pa_cons (pv 0) pa_nil)) (nomark _))))) pe_int (pe_ix ix_seq (pv 0) (pv 1) (fun _ _ => rfl))))),
  ((st_ret (ev_if (et_or (et_test (ev_op rd_is (ev_var 0) ev_non)) (et_test (ev_op rd_ge' (ev_var 1) (ev_cb cd_len (ea_cons (ev_var 0) ea_nil))))) ev_int (ev_op rd_ix (ev_var 0) (ev_var 1)))) : TSm K _ b__field_of)⟩
theorem ok__is_less (T : Tx K w mg) : FnOk P w K mg base CX0 1 T.f__is_less T.d__is_less ["left", "right"] (spM K 2 m__is_less) :=
  def_ok (N := N__is_less) T.F__is_less sc__is_less fun cdv A outer s H E hr => ⟨_,
  (pss_one (ps_ret (pe_ifExp (pt_cmpR op_lt (pv 0) (pv 1) (nomark _)) pe_int pe_int))),
  ((st_ret (ev_if (et_test (ev_op rd_lt' (ev_var 0) (ev_var 1))) ev_int ev_int)) : TSm K _ b__is_less)⟩
theorem ok__is_same (T : Tx K w mg) : FnOk P w K mg base CX0 1 T.f__is_same T.d__is_same ["left", "right"] (spM K 2 m__is_same) :=
  def_ok (N := N__is_same) T.F__is_same sc__is_same fun cdv A outer s H E hr => ⟨_,
  (pss_one (ps_ret (pe_ifExp (pt_cmpR (op_eqD hr.units) (pv 0) (pv 1) (nomark _)) pe_int pe_int))),
  ((st_ret (ev_if (et_test (ev_op rd_eq (ev_var 0) (ev_var 1))) ev_int ev_int)) : TSm K _ b__is_same)⟩
theorem ok__product_of (T : Tx K w mg) : FnOk P w K mg base CX0 1 T.f__product_of T.d__product_of ["left", "right"] (spM K 2 m__product_of) :=
  def_ok (N := N__product_of) T.F__product_of sc__product_of fun cdv A outer s H E hr => ⟨_,
  (pss_one (ps_ret (pe_op op_mod (pe_op op_mulA (pv 0) (pv 1)) (pe_glob (v := .int (10000)) (by rfl) T.c_MODULUS ⟨_, rfl⟩)))),
  ((st_ret (ev_op rd_mod (ev_op rd_mul (ev_var 0) (ev_var 1)) ev_int)) : TSm K _ b__product_of)⟩
theorem ok__quotient_of (T : Tx K w mg) : FnOk P w K mg base CX0 1 T.f__quotient_of T.d__quotient_of ["left", "right"] (spM K 2 m__quotient_of) :=
  def_ok (N := N__quotient_of) T.F__quotient_of sc__quotient_of fun cdv A outer s H E hr => ⟨_,
  (pss_one (ps_ret (pe_op op_fdivW (pv 0) (pv 1)))),
  ((st_ret (ev_op rd_fdiv (ev_var 0) (ev_var 1))) : TSm K _ b__quotient_of)⟩
theorem ok__remainder_of (T : Tx K w mg) : FnOk P w K mg base CX0 1 T.f__remainder_of T.d__remainder_of ["left", "right"] (spM K 2 m__remainder_of) :=
  def_ok (N := N__remainder_of) T.F__remainder_of sc__remainder_of fun cdv A outer s H E hr => ⟨_,
  (pss_one (ps_ret (pe_op op_mod (pv 0) (pv 1)))),
  ((st_ret (ev_op rd_mod (ev_var 0) (ev_var 1))) : TSm K _ b__remainder_of)⟩
theorem ok__rest_of (T : Tx K w mg) : FnOk P w K mg base CX0 1 T.f__rest_of T.d__rest_of ["left", "right"] (spM K 2 m__rest_of) :=
  def_ok (N := N__rest_of) T.F__rest_of sc__rest_of fun cdv A outer s H E hr => ⟨_,
  (pss_one (ps_ret (pe_op op_mod (pe_op op_sub (pv 0) (pv 1)) (pe_glob (v := .int (10000)) (by rfl) T.c_MODULUS ⟨_, rfl⟩)))),
  ((st_ret (ev_op rd_mod (ev_op rd_sub (ev_var 0) (ev_var 1)) ev_int)) : TSm K _ b__rest_of)⟩
theorem ok__sum_of (T : Tx K w mg) : FnOk P w K mg base CX0 1 T.f__sum_of T.d__sum_of ["left", "right"] (spM K 2 m__sum_of) :=
  def_ok (N := N__sum_of) T.F__sum_of sc__sum_of fun cdv A outer s H E hr => ⟨_,
  (pss_one (ps_ret (pe_op op_mod (pe_op op_addA (pv 0) (pv 1)) (pe_glob (v := .int (10000)) (by rfl) T.c_MODULUS ⟨_, rfl⟩)))),
  ((st_ret (ev_op rd_mod (ev_op rd_add (ev_var 0) (ev_var 1)) ev_int)) : TSm K _ b__sum_of)⟩
def tb_RECKONINGS (T : Tx K w mg) : List (Str × Addr × (List D → Option D)) := [("add", T.f__sum_of, m__sum_of), ("div", T.f__quotient_of, m__quotient_of), ("less", T.f__is_less, m__is_less), ("mod", T.f__remainder_of, m__remainder_of), ("mul", T.f__product_of, m__product_of), ("same", T.f__is_same, m__is_same), ("sub", T.f__rest_of, m__rest_of)]
theorem held_RECKONINGS (T : Tx K w mg) : ∀ p ∈ (tb_RECKONINGS T).map (fun e => (e.2.1, spM K 2 e.2.2)), Held P w K mg base 1 p.1 p.2 := by
  intro p hp
  simp only [tb_RECKONINGS, List.map_cons, List.map_nil, List.mem_cons, List.not_mem_nil, or_false] at hp
  rcases hp with rfl | rfl | rfl | rfl | rfl | rfl | rfl
  · exact ⟨_, _, (ok__sum_of T).mono (by decide), T.F__sum_of.kp, T.b__sum_of⟩
  · exact ⟨_, _, (ok__quotient_of T).mono (by decide), T.F__quotient_of.kp, T.b__quotient_of⟩
  · exact ⟨_, _, (ok__is_less T).mono (by decide), T.F__is_less.kp, T.b__is_less⟩
  · exact ⟨_, _, (ok__remainder_of T).mono (by decide), T.F__remainder_of.kp, T.b__remainder_of⟩
  · exact ⟨_, _, (ok__product_of T).mono (by decide), T.F__product_of.kp, T.b__product_of⟩
  · exact ⟨_, _, (ok__is_same T).mono (by decide), T.F__is_same.kp, T.b__is_same⟩
  · exact ⟨_, _, (ok__rest_of T).mono (by decide), T.F__rest_of.kp, T.b__rest_of⟩
theorem ok__worth (T : Tx K w mg) : FnOk P w K mg base CX0 2 T.f__worth T.d__worth ["mind", "step"] (spM K 2 m__worth) :=
  def_ok (N := N__worth) T.F__worth sc__worth fun cdv A outer s H E hr => ⟨_,
  (pss_cons (ps_set (i := 2) sc__worth.nd rfl (.inl rfl) (pe_ix ix_seq (pv 1) pe_int (fun _ _ => rfl)))
  (pss_cons (ps_set (i := 3) sc__worth.nd rfl (.inl rfl) (pe_ix ix_seq (pv 0) (pe_glob (v := .int (2)) (by rfl) T.c_REGISTERS ⟨_, rfl⟩) (fun _ _ => rfl)))
  (pss_cons (ps_if (pt_cmpR (op_inF T.C_RECKONINGS) (pv 2) (pe_glob (v := .ref T.k_RECKONINGS) (by rfl) T.c_RECKONINGS rfl) (by with_unfolding_all rfl)) (pss_cons (ps_set (i := 4) sc__worth.nd rfl (.inl rfl) (pe_ix (ix_getF T.C_RECKONINGS) (pe_glob (v := .ref T.k_RECKONINGS) (by rfl) T.c_RECKONINGS rfl) (pv 2) (fun _ _ => rfl))) (pss_one (ps_ret (pe_callM (k := 1) (held_RECKONINGS T) (hr.mono (by decide)) rfl (.inl rfl) (pa_cons (pe_ix ix_seq (pv 3) (pe_ix ix_seq (pv 1) pe_int (fun _ _ => rfl)) (fun _ _ => rfl)) (pa_cons (pe_ix ix_seq (pv 3) (pe_ix ix_seq (pv 1) pe_int (fun _ _ => rfl)) (fun _ _ => rfl)) pa_nil)))))) pss_nil)
  (pss_cons (ps_if (pt_cmpR (op_eqD hr.units) (pv 2) pe_str (nomark _)) (pss_one (ps_ret (pe_ix ix_seq (pv 1) pe_int (fun _ _ => rfl)))) pss_nil)
  (pss_cons (ps_if (pt_cmpR (op_eqD hr.units) (pv 2) pe_str (nomark _)) (pss_one (ps_ret (pe_ix ix_seq (pv 3) (pe_ix ix_seq (pv 1) pe_int (fun _ _ => rfl)) (fun _ _ => rfl)))) pss_nil)
  (pss_one (ps_ret (pe_call (ok__field_of T) (hr.mono (by decide)) (by rfl) T.g__field_of T.F__field_of.kp T.b__field_of .nil pass0 (pa_cons (pe_ix ix_seq (pe_ix ix_seq (pv 0) (pe_glob (v := .int (3)) (by rfl) T.c_RECORDS ⟨_, rfl⟩) (fun _ _ => rfl)) (pe_ix ix_seq (pv 1) pe_int (fun _ _ => rfl)) (fun _ _ => rfl)) (pa_cons (pe_ix ix_seq (pv 1) pe_int (fun _ _ => rfl)) pa_nil)))))))))),
  ((st_seq (st_set 2 (ev_op rd_ix (ev_var 1) ev_int))
  (st_seq (st_set 3 (ev_op rd_ix (ev_var 0) ev_int))
  (st_seq (st_if (et_test (ev_inF T.C_RECKONINGS (ev_var 2)))
  (st_disp (n := 2) (l := tb_RECKONINGS T) T.C_RECKONINGS (ev_var 2) (ea_cons (ev_op rd_ix (ev_var 3) (ev_op rd_ix (ev_var 1) ev_int)) (ea_cons (ev_op rd_ix (ev_var 3) (ev_op rd_ix (ev_var 1) ev_int)) ea_nil)))
  st_next)
  (st_seq (st_if (et_test (ev_op rd_eq (ev_var 2) ev_str))
  (st_ret (ev_op rd_ix (ev_var 1) ev_int))
  st_next)
  (st_seq (st_if (et_test (ev_op rd_eq (ev_var 2) ev_str))
  (st_ret (ev_op rd_ix (ev_var 3) (ev_op rd_ix (ev_var 1) ev_int)))
  st_next)
  (st_ret (ev_call' (ea_cons (ev_op rd_ix (ev_op rd_ix (ev_var 0) ev_int) (ev_op rd_ix (ev_var 1) ev_int)) (ea_cons (ev_op rd_ix (ev_var 1) ev_int) ea_nil))))))))) : TSm K _ b__worth)⟩
theorem ok__done (T : Tx K w mg) : FnOk P w K mg base CX0 3 T.f__done T.d__done ["mind", "step"] (spM K 2 m__done) :=
  def_ok (N := N__done) T.F__done sc__done fun cdv A outer s H E hr => ⟨_,
  (pss_cons (ps_set (i := 2) sc__done.nd rfl (.inl rfl) (pe_ix ix_seq (pv 1) pe_int (fun _ _ => rfl)))
  (pss_cons (ps_if (PW.pt (pw_and (pt_cmpR op_in_seq (pv 2) (pe_tup (pa_cons pe_str (pa_cons pe_str pa_nil))) (by with_unfolding_all rfl)) (pw_and1 (pt_cmpR (op_eqD hr.units) (pe_ix ix_seq (pe_ix ix_seq (pv 0) (pe_glob (v := .int (2)) (by rfl) T.c_REGISTERS ⟨_, rfl⟩) (fun _ _ => rfl)) (pe_ix ix_seq (pv 1) pe_int (fun _ _ => rfl)) (fun _ _ => rfl)) pe_int (nomark _))))) (pss_one (ps_ret (pe_call (ok__asking T) (hr.mono (by decide)) (by rfl) T.g__asking T.F__asking.kp T.b__asking .nil pass0 (pa_cons (pv 0) (pa_cons (pe_tup (pa_cons pe_str (pa_cons pe_str pa_nil))) pa_nil))))) pss_nil)
  (pss_cons (ps_if (PW.pt (pw_or (pt_cmpR (op_inF T.C_RECKONINGS) (pv 2) (pe_glob (v := .ref T.k_RECKONINGS) (by rfl) T.c_RECKONINGS rfl) (by with_unfolding_all rfl)) (pw_or1 (pt_cmpR op_in_seq (pv 2) (pe_tup (pa_cons pe_str (pa_cons pe_str (pa_cons pe_str pa_nil)))) (by with_unfolding_all rfl))))) (pss_one (ps_ret (pe_tup (pa_cons (pe_call (ok__further T) (hr.mono (by decide)) (by rfl) T.g__further T.F__further.kp T.b__further .nil pass0 (pa_cons (pe_call (ok__with_register T) (hr.mono (by decide)) (by rfl) T.g__with_register T.F__with_register.kp T.b__with_register .nil pass0 (pa_cons (pv 0) (pa_cons (pe_ix ix_seq (pv 1) pe_int (fun _ _ => rfl)) (pa_cons (pe_call (ok__worth T) (hr.mono (by decide)) (by rfl) T.g__worth T.F__worth.kp T.b__worth .nil pass0 (pa_cons (pv 0) (pa_cons (pv 1) pa_nil))) pa_nil)))) pa_nil)) (pa_cons pe_non pa_nil))))) pss_nil)
  (pss_cons (ps_if (pt_cmpR op_in_seq (pv 2) (pe_tup (pa_cons pe_str (pa_cons pe_str (pa_cons pe_str pa_nil)))) (by with_unfolding_all rfl)) (pss_one (ps_ret (pe_tup (pa_cons (pe_call (ok__with_part T) (hr.mono (by decide)) (by rfl) T.g__with_part T.F__with_part.kp T.b__with_part .nil pass0 (pa_cons (pv 0) (pa_cons (pe_glob (v := .int (1)) (by rfl) T.c_PLACE ⟨_, rfl⟩) (pa_cons (pe_call (ok__next_place T) (hr.mono (by decide)) (by rfl) T.g__next_place T.F__next_place.kp T.b__next_place .nil pass0 (pa_cons (pv 0) (pa_cons (pv 1) pa_nil))) pa_nil)))) (pa_cons pe_non pa_nil))))) pss_nil)
  (pss_one (ps_ret (pe_call (ok__asking T) (hr.mono (by decide)) (by rfl) T.g__asking T.F__asking.kp T.b__asking .nil pass0 (pa_cons (pv 0) (pa_cons (pe_call (ok__question T) (hr.mono (by decide)) (by rfl) T.g__question T.F__question.kp T.b__question .nil pass0 (pa_cons (pv 0) (pa_cons (pv 1) pa_nil))) pa_nil))))))))),
  ((st_seq (st_set 2 (ev_op rd_ix (ev_var 1) ev_int))
  (st_seq (st_if (et_and (et_test (ev_op (rd_inT (neg := false)) (ev_var 2) (ev_tup (ea_cons ev_str (ea_cons ev_str ea_nil))))) (et_test (ev_op rd_eq (ev_op rd_ix (ev_op rd_ix (ev_var 0) ev_int) (ev_op rd_ix (ev_var 1) ev_int)) ev_int)))
  (st_ret (ev_call' (ea_cons (ev_var 0) (ea_cons (ev_tup (ea_cons ev_str (ea_cons ev_str ea_nil))) ea_nil))))
  st_next)
  (st_seq (st_if (et_or (et_test (ev_inF T.C_RECKONINGS (ev_var 2))) (et_test (ev_op (rd_inT (neg := false)) (ev_var 2) (ev_tup (ea_cons ev_str (ea_cons ev_str (ea_cons ev_str ea_nil)))))))
  (st_ret (ev_tup (ea_cons (ev_call' (ea_cons (ev_call' (ea_cons (ev_var 0) (ea_cons (ev_op rd_ix (ev_var 1) ev_int) (ea_cons (ev_call' (ea_cons (ev_var 0) (ea_cons (ev_var 1) ea_nil))) ea_nil)))) ea_nil)) (ea_cons ev_non ea_nil))))
  st_next)
  (st_seq (st_if (et_test (ev_op (rd_inT (neg := false)) (ev_var 2) (ev_tup (ea_cons ev_str (ea_cons ev_str (ea_cons ev_str ea_nil))))))
  (st_ret (ev_tup (ea_cons (ev_call' (ea_cons (ev_var 0) (ea_cons ev_int (ea_cons (ev_call' (ea_cons (ev_var 0) (ea_cons (ev_var 1) ea_nil))) ea_nil)))) (ea_cons ev_non ea_nil))))
  st_next)
  (st_ret (ev_call' (ea_cons (ev_var 0) (ea_cons (ev_call' (ea_cons (ev_var 0) (ea_cons (ev_var 1) ea_nil))) ea_nil)))))))) : TSm K _ b__done)⟩
theorem ok_gone (T : Tx K w mg) : FnOk P w K mg base (L2.CX P w) 6 T.f_gone T.d_gone ["mind", "answer"] (spX K T.cl 2 m_gone) :=
  def_okXD (cl := T.cl) (N := N_gone) T.F_gone sc_gone fun cdv A outer s H E hr => ⟨_,
  (pss_cons (ps_if (pt_cmpR op_notA (pe_ix ix_seq (pv 0) (pe_glob (v := .int (5)) (by rfl) T.c_WAITS ⟨_, rfl⟩) (fun _ _ => rfl)) pe_non (nomark _)) (pss_one (ps_ret (pe_tup (pa_cons (pe_callS (ok__answered T) (hr.mono (by decide)) (by rfl) T.g__answered T.F__answered.kp T.b__answered (fun σ => passAt (takes_of rfl rfl rfl rfl) σ) (pa_cons (pv 0) (pa_cons (pv 1) pa_nil))) (pa_cons pe_non pa_nil))))) pss_nil)
  (pss_cons (ps_if (pt_cmpR op_notA (pv 1) pe_non (nomark _)) (pss_one (ps_raise rfl (takes_of rfl rfl rfl rfl) (pmk_own PySem.F.excBase_ValueError T.x_NoAnswer T.g_NoAnswer T.k_NoAnswer (raises_own T.b_NoAnswer T.t_NoAnswer) (by rfl)))) pss_nil)
  (pss_cons (ps_if (pt_cmpR op_ge (pe_ix ix_seq (pv 0) (pe_glob (v := .int (1)) (by rfl) T.c_PLACE ⟨_, rfl⟩) (fun _ _ => rfl)) (pe_callB cr_len (by rfl) T.n_len (by decide +kernel) (pa_cons (pe_ix ix_seq (pv 0) (pe_glob (v := .int (0)) (by rfl) T.c_PROGRAM ⟨_, rfl⟩) (fun _ _ => rfl)) pa_nil)) (nomark _)) (pss_one (ps_ret (pe_call (ok__asking T) (hr.mono (by decide)) (by rfl) T.g__asking T.F__asking.kp T.b__asking .nil pass0 (pa_cons (pv 0) (pa_cons (pe_tup (pa_cons pe_str (pa_cons pe_str pa_nil))) pa_nil))))) pss_nil)
  (pss_one (ps_ret (pe_call (ok__done T) (hr.mono (by decide)) (by rfl) T.g__done T.F__done.kp T.b__done .nil pass0 (pa_cons (pv 0) (pa_cons (pe_ix ix_seq (pe_ix ix_seq (pv 0) (pe_glob (v := .int (0)) (by rfl) T.c_PROGRAM ⟨_, rfl⟩) (fun _ _ => rfl)) (pe_ix ix_seq (pv 0) (pe_glob (v := .int (1)) (by rfl) T.c_PLACE ⟨_, rfl⟩) (fun _ _ => rfl)) (fun _ _ => rfl)) pa_nil)))))))),
  ((sx_seq (sx_if (et_test (ev_op rd_isnot (ev_op rd_ix (ev_var 0) ev_int) ev_non))
  (sx_ret (ex_tupC (ex_call (ea_cons (ev_var 0) (ea_cons (ev_var 1) ea_nil))) (ea_cons ev_non ea_nil)))
  (sx_lift st_next))
  (sx_seq (sx_if (et_test (ev_op rd_isnot (ev_var 1) ev_non))
  (sx_raise 0)
  (sx_lift st_next))
  (sx_seq (sx_lift (st_if (et_test (ev_op rd_ge' (ev_op rd_ix (ev_var 0) ev_int) (ev_cb cd_len (ea_cons (ev_op rd_ix (ev_var 0) ev_int) ea_nil))))
  (st_ret (ev_call' (ea_cons (ev_var 0) (ea_cons (ev_tup (ea_cons ev_str (ea_cons ev_str ea_nil))) ea_nil))))
  st_next))
  (sx_lift (st_ret (ev_call' (ea_cons (ev_var 0) (ea_cons (ev_op rd_ix (ev_op rd_ix (ev_var 0) ev_int) (ev_op rd_ix (ev_var 0) ev_int)) ea_nil)))))))) : SX K T.cl _ b_gone)⟩
theorem ok__law_pick (T : Tx K w mg) : FnOk P w K mg base CX0 1 T.f__law_pick T.d__law_pick ["_law_script", "_law_k", "_law_many"] (spM K 3 m__law_pick) :=
  def_ok (N := N__law_pick) T.F__law_pick sc__law_pick fun cdv A outer s H E hr => ⟨_,
  (pss_cons (ps_set (i := 3) sc__law_pick.nd rfl (.inl rfl) (pe_ifExp (pt_cmpR (op_neD hr.units) (pv 0) (pe_lst pa_nil) (nomark _)) (pe_ix ix_seq (pv 0) (pe_op op_mod (pv 1) (pe_callB cr_len (by rfl) T.n_len (by decide +kernel) (pa_cons (pv 0) pa_nil))) (fun _ _ => rfl)) pe_int))
  (pss_cons (ps_par (i := 4) (j := 5) rfl sc__law_pick.nd rfl rfl (by decide) rfl rfl (pa_cons (pe_op op_fdivW (pv 3) (pe_op op_pow pe_int pe_int)) (pa_cons (pe_op op_fdivW (pv 1) (pe_callB (cr_max2 rfl) (by rfl) T.n_max (by decide +kernel) (pa_cons (pe_callB cr_len (by rfl) T.n_len (by decide +kernel) (pa_cons (pv 0) pa_nil)) (pa_cons pe_int pa_nil)))) pa_nil)) (by rfl))
  (pss_cons (ps_while PassesOwn.never (PW.pt (pw_and (pt_cmpR op_gt (pv 4) pe_int (nomark _)) (pw_and1 (pt_cmpR op_gt (pv 5) pe_int (nomark _))))) (pss_one (ps_par (i := 4) (j := 5) rfl sc__law_pick.nd rfl rfl (by decide) rfl rfl (pa_cons (pe_op op_fdivW (pv 4) pe_int) (pa_cons (pe_op op_sub (pv 5) pe_int) pa_nil)) (by rfl))))
  (pss_cons (ps_if (pt_cmpR op_gt (pv 4) pe_int (nomark _)) (pss_one (ps_ret (pe_op op_mod (pe_op op_mod (pv 4) pe_int) (pv 2)))) pss_nil)
  (pss_cons (ps_set (i := 6) sc__law_pick.nd rfl (.inl rfl) (pe_op op_mod (pe_op op_mulA (pe_op op_addA (pe_op op_mulA (pv 3) pe_int) (pe_op op_mulA pe_int (pe_op op_addA (pv 1) pe_int))) pe_int) pe_int))
  (pss_one (ps_ret (pe_op op_mod (pe_op op_mod (pe_op op_addA (pe_op op_mulA (pv 6) (pv 6)) (pe_op op_fdivW (pv 6) pe_int)) pe_int) (pv 2))))))))),
  ((st_seq (st_set 3 (ev_if (et_test (ev_op rd_ne (ev_var 0) (ev_list (fl_lst ea_nil)))) (ev_op rd_ix (ev_var 0) (ev_op rd_mod (ev_var 1) (ev_cb cd_len (ea_cons (ev_var 0) ea_nil)))) ev_int))
  (st_seq (st_par (ev_op rd_fdiv (ev_var 3) (ev_op rd_pow ev_int ev_int)) (ev_op rd_fdiv (ev_var 1) (ev_cb cd_max2 (ea_cons (ev_cb cd_len (ea_cons (ev_var 0) ea_nil)) (ea_cons ev_int ea_nil)))))
  (st_seq (st_while fuel__law_pick_0 (et_and (et_test (ev_op rd_gt' (ev_var 4) ev_int)) (et_test (ev_op rd_gt' (ev_var 5) ev_int)))
  (st_par (ev_op rd_fdiv (ev_var 4) ev_int) (ev_op rd_sub (ev_var 5) ev_int)))
  (st_seq (st_if (et_test (ev_op rd_gt' (ev_var 4) ev_int))
  (st_ret (ev_op rd_mod (ev_op rd_mod (ev_var 4) ev_int) (ev_var 2)))
  st_next)
  (st_seq (st_set 6 (ev_op rd_mod (ev_op rd_mul (ev_op rd_add (ev_op rd_mul (ev_var 3) ev_int) (ev_op rd_mul ev_int (ev_op rd_add (ev_var 1) ev_int))) ev_int) ev_int))
  (st_ret (ev_op rd_mod (ev_op rd_mod (ev_op rd_add (ev_op rd_mul (ev_var 6) (ev_var 6)) (ev_op rd_fdiv (ev_var 6) ev_int)) ev_int) (ev_var 2)))))))) : TSm K _ b__law_pick)⟩
theorem cls__law_class (T : Tx K w mg) (c : Nat) {a : Addr} {oe : Obj} (hz : Zc (.ref (T.cl c)) none oe) (hf : ∃ vs, oe.data = .fields vs) {cdv : Value} {A : Around} {outer : List Env} {s : Shared} {H : Hp} {k : Nat} (hr : L2H.RoomH k (A.deeper (envOfC "_law_class" (defScope s__law_class) s.heap.objs.size T.f__law_class cdv))) :
    ∃ t, PSs (L2H.cxH CX0 P w K mg base N__law_class "_law_class" (defScope s__law_class) T.f__law_class cdv A outer s H E0 (a, oe)) (defBody s__law_class) t ∧ @TSm _ ⟨a, c⟩ K t b__law_class :=
  letI : ExQ := ⟨a, c⟩
  ⟨_,
  (pss_cons (ps_set (i := 1) sc__law_class.nd rfl (.inl rfl) (pe_lst (pa_cons (pe_callB (call_isP (T.E c) hz hf List.mem_cons_self) (by rfl) T.n_isinstance (by decide +kernel) (pa_cons (pv 0) (pa_cons (pe_glob (v := .ref T.C_NoNumber) (by rfl) T.g_NoNumber rfl) pa_nil))) (pa_cons (pe_callB (call_isP (T.E c) hz hf List.mem_cons_self) (by rfl) T.n_isinstance (by decide +kernel) (pa_cons (pv 0) (pa_cons (pe_glob (v := .ref T.C_NoName) (by rfl) T.g_NoName rfl) pa_nil))) (pa_cons (pe_callB (call_isP (T.E c) hz hf List.mem_cons_self) (by rfl) T.n_isinstance (by decide +kernel) (pa_cons (pv 0) (pa_cons (pe_glob (v := .ref T.C_NoRecords) (by rfl) T.g_NoRecords rfl) pa_nil))) (pa_cons (pe_callB (call_isP (T.E c) hz hf List.mem_cons_self) (by rfl) T.n_isinstance (by decide +kernel) (pa_cons (pv 0) (pa_cons (pe_glob (v := .ref T.C_NoCode) (by rfl) T.g_NoCode rfl) pa_nil))) pa_nil))))))
  (pss_cons (ps_expr (pe_bm PySem.F.plainAttrs_list PySem.F.slot_list_extend PySem.F.type_list_extend mt_extend (pv 1) (pa_cons (pe_lst (pa_cons (pe_callB (call_isP (T.E c) hz hf List.mem_cons_self) (by rfl) T.n_isinstance (by decide +kernel) (pa_cons (pv 0) (pa_cons (pe_glob (v := .ref T.C_NoDeck) (by rfl) T.g_NoDeck rfl) pa_nil))) (pa_cons (pe_callB (call_isP (T.E c) hz hf List.mem_cons_self) (by rfl) T.n_isinstance (by decide +kernel) (pa_cons (pv 0) (pa_cons (pe_glob (v := .ref T.C_NoAnswer) (by rfl) T.g_NoAnswer rfl) pa_nil))) (pa_cons (pe_callB (call_isP (T.E c) hz hf List.mem_cons_self) (by rfl) T.n_isinstance (by decide +kernel) (pa_cons (pv 0) (pa_cons (pe_glob (v := .ref T.C_NoJob) (by rfl) T.g_NoJob rfl) pa_nil))) (pa_cons (pe_callB (call_isP (T.E c) hz hf List.mem_cons_self) (by rfl) T.n_isinstance (by decide +kernel) (pa_cons (pv 0) (pa_cons (pe_glob (v := .ref T.C_NoSlot) (by rfl) T.g_NoSlot rfl) pa_nil))) pa_nil))))) pa_nil)))
  (pss_cons (ps_expr (pe_bm PySem.F.plainAttrs_list PySem.F.slot_list_extend PySem.F.type_list_extend mt_extend (pv 1) (pa_cons (pe_lst (pa_cons (pe_callB (call_isP (T.E c) hz hf List.mem_cons_self) (by rfl) T.n_isinstance (by decide +kernel) (pa_cons (pv 0) (pa_cons (pe_glob (v := .ref T.C_NoAccount) (by rfl) T.g_NoAccount rfl) pa_nil))) (pa_cons (pe_callB (call_isP (T.E c) hz hf List.mem_cons_self) (by rfl) T.n_isinstance (by decide +kernel) (pa_cons (pv 0) (pa_cons (pe_glob (v := .ref T.C_NoVolume) (by rfl) T.g_NoVolume rfl) pa_nil))) (pa_cons (pe_callB (call_isP (T.E c) hz hf List.mem_cons_self) (by rfl) T.n_isinstance (by decide +kernel) (pa_cons (pv 0) (pa_cons (pe_glob (v := .ref T.C_NoDrive) (by rfl) T.g_NoDrive rfl) pa_nil))) (pa_cons (pe_callB (call_isP (T.E c) hz hf List.mem_cons_self) (by rfl) T.n_isinstance (by decide +kernel) (pa_cons (pv 0) (pa_cons (pe_glob (v := .ref T.C_NoPrinter) (by rfl) T.g_NoPrinter rfl) pa_nil))) pa_nil))))) pa_nil)))
  (pss_cons (ps_expr (pe_bm PySem.F.plainAttrs_list PySem.F.slot_list_extend PySem.F.type_list_extend mt_extend (pv 1) (pa_cons (pe_lst (pa_cons (pe_callB (call_isP (T.E c) hz hf List.mem_cons_self) (by rfl) T.n_isinstance (by decide +kernel) (pa_cons (pv 0) (pa_cons (pe_glob (v := .ref T.C_NoChoices) (by rfl) T.g_NoChoices rfl) pa_nil))) (pa_cons (pe_callB (call_isP (T.E c) hz hf List.mem_cons_self) (by rfl) T.n_isinstance (by decide +kernel) (pa_cons (pv 0) (pa_cons (pe_glob (v := .ref T.C_IsDown) (by rfl) T.g_IsDown rfl) pa_nil))) (pa_cons (pe_callB (call_isP (T.E c) hz hf List.mem_cons_self) (by rfl) T.n_isinstance (by decide +kernel) (pa_cons (pv 0) (pa_cons (pe_glob (v := .ref T.C_IsUp) (by rfl) T.g_IsUp rfl) pa_nil))) (pa_cons (pe_callB (call_isP (T.E c) hz hf List.mem_cons_self) (by rfl) T.n_isinstance (by decide +kernel) (pa_cons (pv 0) (pa_cons (pe_glob (v := .ref T.C_NoEvents) (by rfl) T.g_NoEvents rfl) pa_nil))) pa_nil))))) pa_nil)))
  (pss_cons (ps_expr (pe_bm PySem.F.plainAttrs_list PySem.F.slot_list_extend PySem.F.type_list_extend mt_extend (pv 1) (pa_cons (pe_lst (pa_cons (pe_callB (call_isP (T.E c) hz hf List.mem_cons_self) (by rfl) T.n_isinstance (by decide +kernel) (pa_cons (pv 0) (pa_cons (pe_glob (v := .ref T.C_NoText) (by rfl) T.g_NoText rfl) pa_nil))) (pa_cons (pe_callB (call_isP (T.E c) hz hf List.mem_cons_self) (by rfl) T.n_isinstance (by decide +kernel) (pa_cons (pv 0) (pa_cons (pe_glob (v := .ref T.C_NoValue) (by rfl) T.g_NoValue rfl) pa_nil))) (pa_cons (pe_callB (call_isP (T.E c) hz hf List.mem_cons_self) (by rfl) T.n_isinstance (by decide +kernel) (pa_cons (pv 0) (pa_cons (pe_glob (v := .ref T.C_NoWords) (by rfl) T.g_NoWords rfl) pa_nil))) (pa_cons (pe_callB (call_isP (T.E c) hz hf List.mem_cons_self) (by rfl) T.n_isinstance (by decide +kernel) (pa_cons (pv 0) (pa_cons (pe_glob (v := .ref T.C_NoRoom) (by rfl) T.g_NoRoom rfl) pa_nil))) pa_nil))))) pa_nil)))
  (pss_cons (ps_expr (pe_bm PySem.F.plainAttrs_list PySem.F.slot_list_extend PySem.F.type_list_extend mt_extend (pv 1) (pa_cons (pe_lst (pa_cons (pe_callB (call_isP (T.E c) hz hf List.mem_cons_self) (by rfl) T.n_isinstance (by decide +kernel) (pa_cons (pv 0) (pa_cons (pe_glob (v := .ref T.C_TooDear) (by rfl) T.g_TooDear rfl) pa_nil))) (pa_cons (pe_callB (call_isP (T.E c) hz hf List.mem_cons_self) (by rfl) T.n_isinstance (by decide +kernel) (pa_cons (pv 0) (pa_cons (pe_glob (v := .ref T.C_Busy) (by rfl) T.g_Busy rfl) pa_nil))) pa_nil))) pa_nil)))
  (pss_cons (ps_if (PW.pt (pw_or (pt_cmpR (op_neD (unH hr)) (pe_bm PySem.F.plainAttrs_list PySem.F.slot_list_count PySem.F.type_list_count (mt_countD (huH hr)) (pv 1) (pa_cons pe_bl pa_nil)) pe_int (nomark _)) (pw_or1 (pt_not (pt_tr (pe_callB (call_isP (T.E c) hz hf List.mem_cons_self) (by rfl) T.n_isinstance (by decide +kernel) (pa_cons (pv 0) (pa_cons (pe_bltn (v := .ty "ValueError") (by rfl) T.n_ValueError (by decide +kernel) rfl) pa_nil))) (fun _ => rfl)))))) (pss_one (ps_ret pe_str)) pss_nil)
  (pss_cons (ps_set (i := 2) sc__law_class.nd rfl (.inl rfl) (pe_lst (pa_cons pe_str (pa_cons pe_str (pa_cons pe_str (pa_cons pe_str (pa_cons pe_str (pa_cons pe_str (pa_cons pe_str (pa_cons pe_str pa_nil))))))))))
  (pss_cons (ps_expr (pe_bm PySem.F.plainAttrs_list PySem.F.slot_list_extend PySem.F.type_list_extend mt_extend (pv 2) (pa_cons (pe_lst (pa_cons pe_str (pa_cons pe_str (pa_cons pe_str (pa_cons pe_str (pa_cons pe_str (pa_cons pe_str (pa_cons pe_str (pa_cons pe_str pa_nil))))))))) pa_nil)))
  (pss_cons (ps_expr (pe_bm PySem.F.plainAttrs_list PySem.F.slot_list_extend PySem.F.type_list_extend mt_extend (pv 2) (pa_cons (pe_lst (pa_cons pe_str (pa_cons pe_str (pa_cons pe_str (pa_cons pe_str (pa_cons pe_str (pa_cons pe_str pa_nil))))))) pa_nil)))
  (pss_one (ps_ret (pe_ix ix_seq (pv 2) (pe_bm PySem.F.plainAttrs_list PySem.F.slot_list_index PySem.F.type_list_index (mt_indexD (huH hr)) (pv 1) (pa_cons pe_bl pa_nil)) (fun _ _ => rfl)))))))))))))),
  ((st_seq (st_own 1 (fl_lst (ea_cons (ev_isX (v := .ref T.C_NoNumber) (cv := .ref T.C_NoNumber) (fun _ r => r) (T.kit_NoNumber c)) (ea_cons (ev_isX (v := .ref T.C_NoName) (cv := .ref T.C_NoName) (fun _ r => r) (T.kit_NoName c)) (ea_cons (ev_isX (v := .ref T.C_NoRecords) (cv := .ref T.C_NoRecords) (fun _ r => r) (T.kit_NoRecords c)) (ea_cons (ev_isX (v := .ref T.C_NoCode) (cv := .ref T.C_NoCode) (fun _ r => r) (T.kit_NoCode c)) ea_nil))))))
  (st_seq (st_extend (i := 1) (fl_lst (ea_cons (ev_isX (v := .ref T.C_NoDeck) (cv := .ref T.C_NoDeck) (fun _ r => r) (T.kit_NoDeck c)) (ea_cons (ev_isX (v := .ref T.C_NoAnswer) (cv := .ref T.C_NoAnswer) (fun _ r => r) (T.kit_NoAnswer c)) (ea_cons (ev_isX (v := .ref T.C_NoJob) (cv := .ref T.C_NoJob) (fun _ r => r) (T.kit_NoJob c)) (ea_cons (ev_isX (v := .ref T.C_NoSlot) (cv := .ref T.C_NoSlot) (fun _ r => r) (T.kit_NoSlot c)) ea_nil))))))
  (st_seq (st_extend (i := 1) (fl_lst (ea_cons (ev_isX (v := .ref T.C_NoAccount) (cv := .ref T.C_NoAccount) (fun _ r => r) (T.kit_NoAccount c)) (ea_cons (ev_isX (v := .ref T.C_NoVolume) (cv := .ref T.C_NoVolume) (fun _ r => r) (T.kit_NoVolume c)) (ea_cons (ev_isX (v := .ref T.C_NoDrive) (cv := .ref T.C_NoDrive) (fun _ r => r) (T.kit_NoDrive c)) (ea_cons (ev_isX (v := .ref T.C_NoPrinter) (cv := .ref T.C_NoPrinter) (fun _ r => r) (T.kit_NoPrinter c)) ea_nil))))))
  (st_seq (st_extend (i := 1) (fl_lst (ea_cons (ev_isX (v := .ref T.C_NoChoices) (cv := .ref T.C_NoChoices) (fun _ r => r) (T.kit_NoChoices c)) (ea_cons (ev_isX (v := .ref T.C_IsDown) (cv := .ref T.C_IsDown) (fun _ r => r) (T.kit_IsDown c)) (ea_cons (ev_isX (v := .ref T.C_IsUp) (cv := .ref T.C_IsUp) (fun _ r => r) (T.kit_IsUp c)) (ea_cons (ev_isX (v := .ref T.C_NoEvents) (cv := .ref T.C_NoEvents) (fun _ r => r) (T.kit_NoEvents c)) ea_nil))))))
  (st_seq (st_extend (i := 1) (fl_lst (ea_cons (ev_isX (v := .ref T.C_NoText) (cv := .ref T.C_NoText) (fun _ r => r) (T.kit_NoText c)) (ea_cons (ev_isX (v := .ref T.C_NoValue) (cv := .ref T.C_NoValue) (fun _ r => r) (T.kit_NoValue c)) (ea_cons (ev_isX (v := .ref T.C_NoWords) (cv := .ref T.C_NoWords) (fun _ r => r) (T.kit_NoWords c)) (ea_cons (ev_isX (v := .ref T.C_NoRoom) (cv := .ref T.C_NoRoom) (fun _ r => r) (T.kit_NoRoom c)) ea_nil))))))
  (st_seq (st_extend (i := 1) (fl_lst (ea_cons (ev_isX (v := .ref T.C_TooDear) (cv := .ref T.C_TooDear) (fun _ r => r) (T.kit_TooDear c)) (ea_cons (ev_isX (v := .ref T.C_Busy) (cv := .ref T.C_Busy) (fun _ r => r) (T.kit_Busy c)) ea_nil))))
  (st_seq (st_frz 1 (st_if (et_or (et_test (ev_op rd_ne (ev_count (ev_var 1) ev_bl) ev_int)) (et_not (et_tru (ev_isX (v := .ty "ValueError") (cv := .type "ValueError") (fun _ r => r) (T.kit_ValueError c)))))
  (st_ret ev_str)
  st_next))
  (st_seq (st_own 2 (fl_lst (ea_cons ev_str (ea_cons ev_str (ea_cons ev_str (ea_cons ev_str (ea_cons ev_str (ea_cons ev_str (ea_cons ev_str (ea_cons ev_str ea_nil))))))))))
  (st_seq (st_extend (i := 2) (fl_lst (ea_cons ev_str (ea_cons ev_str (ea_cons ev_str (ea_cons ev_str (ea_cons ev_str (ea_cons ev_str (ea_cons ev_str (ea_cons ev_str ea_nil))))))))))
  (st_seq (st_extend (i := 2) (fl_lst (ea_cons ev_str (ea_cons ev_str (ea_cons ev_str (ea_cons ev_str (ea_cons ev_str (ea_cons ev_str ea_nil))))))))
  (st_frz 1 (st_frz 2 (st_ret (ev_op rd_ix (ev_var 2) (ev_index (ev_var 1) ev_bl))))))))))))))) : TSm K _ b__law_class)⟩
theorem sg__law_told (T : Tx K w mg) {t : Addr → Nat → TS} (h : ∀ (a : Addr) (c : Nat), letI : ExQ := ⟨a, c⟩; TSm K (t a c) b__law_told) : SG K T.cl T.C_YardError (tSome T.cl okA t) okA b__law_told := sg_mk (fun c _ => T.exm_YardError c) fun c _ a => h a c
theorem gv__law_told (T : Tx K w mg) {q q' : Str} {cdg cd' : Value} {N' : List Str} {sc' : Scope} {f' : Addr} {A : Around} {outer : List Env} {s' : Shared} {H' : Hp} {E' : XK} (hrX : Room 4 (A.deeper (envOfC q' sc' s'.heap.objs.size f' cd'))) : LamX.GivesTo (cxOf CX0 P w K mg base N' q' sc' f' cd' A outer s' H' E').nox N__law_told "_law_told" (defScope s__law_told) T.f__law_told cdg (defBody s__law_told) "_law_deed" q (TTold K T.cl okA (rSuite 2 1 b__law_told)) :=
  gives_told (i := 1) (mh := b__law_told) rfl rfl T.g_YardError (by decide) sc__law_told.nd rfl rfl hrX (fun f => rfl) (fun s H a oe cls d pn hr hz hf => pss_some hz fun c _ hz =>
  (pss_one (ps_ret (pe_tup (pa_cons pe_str (pa_cons (pe_exc (k := 0) (c := c) T.F__law_class sc__law_class T.b__law_class (by decide) List.mem_cons_self (rmH_mark (k := 1) (hr.mono (by decide))) (by rfl) T.g__law_class (pv 1) (fun cdv A outer s H hr => cls__law_class T c hz hf hr)) pa_nil))))))
  (sg__law_told T fun a c => (letI : ExQ := ⟨a, c⟩; ((st_ret (ev_tup (ea_cons ev_str (ea_cons ev_exc ea_nil)))) : TSm _ _ b__law_told)))
theorem ok_law (T : Tx K w mg) (B : TB T base) : FnOk P w K mg base CX0 9 T.f_law T.d_law ["_law_script"] (spM K 1 m_law) :=
  def_okT (co := T.co_law) (N := N_law) T.F_law T.cd_law sc_law fun A outer s H E hr => ⟨_,
  (pss_cons (ps_par (i := 1) (j := 2) rfl sc_law.nd rfl rfl (by decide) rfl rfl (pa_cons (pe_call (ok__law_pick T) (hr.mono (by decide)) (by rfl) T.g__law_pick T.F__law_pick.kp T.b__law_pick .nil pass0 (pa_cons (pv 0) (pa_cons pe_int (pa_cons pe_int pa_nil)))) (pa_cons (pe_op op_addA pe_int (pe_call (ok__law_pick T) (hr.mono (by decide)) (by rfl) T.g__law_pick T.F__law_pick.kp T.b__law_pick .nil pass0 (pa_cons (pv 0) (pa_cons pe_int (pa_cons pe_int pa_nil))))) pa_nil)) (by rfl))
  (pss_cons (ps_set (i := 3) sc_law.nd rfl (.inl rfl) (pe_tup (pa_cons (pe_tup (pa_cons pe_str (pa_cons pe_int (pa_cons (pv 1) pa_nil)))) (pa_cons (pe_tup (pa_cons pe_str (pa_cons (pv 2) pa_nil))) (pa_cons (pe_tup (pa_cons pe_str (pa_cons pe_int (pa_cons (pe_tup (pa_cons pe_int (pa_cons pe_int pa_nil))) pa_nil)))) (pa_cons (pe_tup (pa_cons pe_str (pa_cons (pe_tup (pa_cons pe_int pa_nil)) pa_nil))) (pa_cons (pe_tup (pa_cons pe_str pa_nil)) (pa_cons (pe_tup (pa_cons pe_str (pa_cons pe_int (pa_cons pe_int (pa_cons pe_int pa_nil))))) (pa_cons (pe_tup (pa_cons pe_str (pa_cons pe_int pa_nil))) pa_nil)))))))))
  (pss_cons (ps_set (i := 12) sc_law.nd rfl (.inr rfl) (pe_callS (E := fun _ _ _ _ => False) (ok_begun T) (hr.mono (by decide)) (by rfl) T.g_begun T.F_begun.kp T.b_begun (fun σ => passNo σ) (pa_cons (pv 3) (pa_cons (pe_tup (pa_cons pe_int (pa_cons pe_int pa_nil))) pa_nil))))
  (pss_cons (ps_if (pt_cmpR (op_neD hr.units) (pv 12) (pe_tup (pa_cons (pv 3) (pa_cons pe_int (pa_cons (pe_tup (pa_cons pe_int (pa_cons pe_int (pa_cons pe_int (pa_cons pe_int (pa_cons pe_int (pa_cons pe_int (pa_cons pe_int (pa_cons pe_int pa_nil))))))))) (pa_cons (pe_op op_mulA (pe_tup (pa_cons pe_non pa_nil)) pe_int) (pa_cons (pe_op op_mulA (pe_tup (pa_cons pe_bl pa_nil)) pe_int) (pa_cons pe_non pa_nil))))))) (nomark _)) (pss_one (ps_ret pe_bl)) pss_nil)
  (pss_cons (ps_if (pt_cmpR (op_neD hr.units) (pe_lam (k := 6) T.F__law_told (by rfl) T.g__law_told T.b__law_told sc__law_told rfl (Or.inl rfl) (fun cdv => gv__law_told T (hr.mono (by decide))) B.b_law rfl B.m_law B.u_law (hr.mono (by decide)) (LamX.lamS_by (sc := defScope s_law) (by decide +kernel)) rfl (fun _ _ _ _ _ => rfl) (fun A outer s H E f c' hr => (pe_callS (ok_gone T) (hr.mono (by decide)) (by rfl) T.g_gone T.F_gone.kp T.b_gone (fun σ => passAt (takes_of rfl rfl rfl rfl) σ) (pa_cons (pv 12) (pa_cons (pe_tup (pa_cons pe_str (pa_cons pe_bl pa_nil))) pa_nil))))) (pe_tup (pa_cons pe_str (pa_cons pe_str pa_nil))) (nomark _)) (pss_one (ps_ret pe_bl)) pss_nil)
  (pss_cons (ps_asg (pe_callSD (E := fun _ _ _ _ => False) (ok_gone T) (hr.mono (by decide)) (by rfl) T.g_gone T.F_gone.kp T.e_gone T.v_gone (fun σ => passNo σ) (pa_cons (pv 12) pa_nil)) (pg_or (pg_tup rfl (pgs_cons (pg_name (i := 12) sc_law.nd rfl (.inr rfl)) (pgs_cons (pg_name (i := 4) sc_law.nd rfl (.inl rfl)) pgs_nil))) (pg_lst rfl (pgs_cons (pg_name (i := 12) sc_law.nd rfl (.inr rfl)) (pgs_cons (pg_name (i := 4) sc_law.nd rfl (.inl rfl)) pgs_nil)))))
  (pss_cons (ps_if (PW.pt (pw_or (pt_cmpR op_notA (pv 4) pe_non (nomark _)) (pw_or1 (pt_cmpR (op_neD hr.units) (pv 12) (pe_tup (pa_cons (pv 3) (pa_cons pe_int (pa_cons (pe_tup (pa_cons pe_int (pa_cons pe_int (pa_cons pe_int (pa_cons (pv 1) (pa_cons pe_int (pa_cons pe_int (pa_cons pe_int (pa_cons pe_int pa_nil))))))))) (pa_cons (pe_op op_mulA (pe_tup (pa_cons pe_non pa_nil)) pe_int) (pa_cons (pe_op op_mulA (pe_tup (pa_cons pe_bl pa_nil)) pe_int) (pa_cons pe_non pa_nil))))))) (nomark _))))) (pss_one (ps_ret pe_bl)) pss_nil)
  (pss_cons (ps_set (i := 5) sc_law.nd rfl (.inl rfl) (pe_lst (pa_cons (pe_tup (pa_cons pe_str (pa_cons (pv 2) pa_nil))) (pa_cons (pe_tup (pa_cons pe_str (pa_cons pe_int (pa_cons (pe_tup (pa_cons (pv 1) (pa_cons pe_int pa_nil))) pa_nil)))) (pa_cons (pe_tup (pa_cons pe_str (pa_cons (pe_tup (pa_cons (pv 1) pa_nil)) pa_nil))) (pa_cons (pe_tup (pa_cons pe_str pa_nil)) pa_nil))))))
  (pss_cons (ps_set (i := 6) sc_law.nd rfl (.inl rfl) (pe_lst (pa_cons (pe_ifExp (pt_cmpR (op_eqD hr.units) (pe_call (ok__law_pick T) (hr.mono (by decide)) (by rfl) T.g__law_pick T.F__law_pick.kp T.b__law_pick .nil pass0 (pa_cons (pv 0) (pa_cons pe_int (pa_cons pe_int pa_nil)))) pe_int (nomark _)) (pe_tup (pa_cons (pv 1) (pa_cons pe_int pa_nil))) pe_non) (pa_cons pe_bl (pa_cons pe_bl (pa_cons pe_bl pa_nil))))))
  (pss_cons (ps_for PassesOwn.never rfl (pi_zipX (by rfl) T.n_zip (pa_cons (pv 5) (pa_cons (pv 6) pa_nil))) (pg_tup rfl (pgs_cons (pg_name (i := 7) sc_law.nd rfl (.inl rfl)) (pgs_cons (pg_name (i := 8) sc_law.nd rfl (.inl rfl)) pgs_nil))) (pss_cons (ps_asg (pe_callSD (E := fun _ _ _ _ => False) (ok_gone T) (hr.mono (by decide)) (by rfl) T.g_gone T.F_gone.kp T.e_gone T.v_gone (fun σ => passNo σ) (pa_cons (pv 12) pa_nil)) (pg_or (pg_tup rfl (pgs_cons (pg_name (i := 12) sc_law.nd rfl (.inr rfl)) (pgs_cons (pg_name (i := 4) sc_law.nd rfl (.inl rfl)) pgs_nil))) (pg_lst rfl (pgs_cons (pg_name (i := 12) sc_law.nd rfl (.inr rfl)) (pgs_cons (pg_name (i := 4) sc_law.nd rfl (.inl rfl)) pgs_nil)))))
  (pss_cons (ps_if (PW.pt (pw_or (pt_cmpR (op_neD hr.units) (pv 4) (pv 7) (nomark _)) (pw_or1 (pt_cmpR (op_neD hr.units) (pe_ix ix_seq (pv 12) pe_int (fun _ _ => rfl)) (pv 7) (nomark _))))) (pss_one (ps_ret pe_bl)) pss_nil)
  (pss_cons (ps_set (i := 9) sc_law.nd rfl (.inl rfl) (pe_lst (pa_cons pe_non (pa_cons pe_bl (pa_cons (pe_tup pa_nil) (pa_cons (pe_tup (pa_cons pe_str pa_nil)) (pa_cons (pe_lst (pa_cons pe_str (pa_cons (pv 8) pa_nil))) (pa_cons (pe_tup (pa_cons pe_str (pa_cons (pv 8) pa_nil))) (pa_cons (pe_tup (pa_cons pe_str (pa_cons (pv 8) (pa_cons (pv 8) pa_nil)))) (pa_cons (pe_tup (pa_cons pe_str (pa_cons pe_int pa_nil))) (pa_cons (pe_tup (pa_cons pe_str (pa_cons (pe_tup pa_nil) pa_nil))) pa_nil)))))))))))
  (pss_cons (ps_expr (pe_bm PySem.F.plainAttrs_list PySem.F.slot_list_append PySem.F.type_list_append mt_append (pv 9) (pa_cons (pe_tup (pa_cons pe_str (pa_cons (pe_ifExp (pt_cmpR (op_neD hr.units) (pe_ix ix_seq (pv 7) pe_int (fun _ _ => rfl)) pe_str (nomark _)) pe_non pe_bl) pa_nil))) pa_nil)))
  (pss_cons (ps_for PassesOwn.never rfl (pi_any (pv 9)) (pg_name (i := 11) sc_law.nd rfl (.inr rfl)) (pss_one (ps_if (pt_cmpR (op_neD hr.units) (pe_lam (k := 6) T.F__law_told (by rfl) T.g__law_told T.b__law_told sc__law_told rfl (Or.inl rfl) (fun cdv => gv__law_told T (hr.mono (by decide))) B.b_law rfl B.m_law B.u_law (hr.mono (by decide)) (LamX.lamS_by (sc := defScope s_law) (by decide +kernel)) rfl (fun _ _ _ _ _ => rfl) (fun A outer s H E f c' hr => (pe_callS (ok_gone T) (hr.mono (by decide)) (by rfl) T.g_gone T.F_gone.kp T.b_gone (fun σ => passAt (takes_of rfl rfl rfl rfl) σ) (pa_cons (pv 12) (pa_cons (pv 11) pa_nil))))) (pe_tup (pa_cons pe_str (pa_cons pe_str pa_nil))) (nomark _)) (pss_one (ps_ret pe_bl)) pss_nil)))
  (pss_cons (ps_set (i := 10) sc_law.nd rfl (.inl rfl) (pv 12))
  (pss_cons (ps_asg (pe_callS (E := fun _ _ _ _ => False) (ok_gone T) (hr.mono (by decide)) (by rfl) T.g_gone T.F_gone.kp T.b_gone (fun σ => passNo σ) (pa_cons (pv 12) (pa_cons (pe_tup (pa_cons pe_str (pa_cons (pv 8) pa_nil))) pa_nil))) (pg_or (pg_tup rfl (pgs_cons (pg_name (i := 12) sc_law.nd rfl (.inr rfl)) (pgs_cons (pg_name (i := 4) sc_law.nd rfl (.inl rfl)) pgs_nil))) (pg_lst rfl (pgs_cons (pg_name (i := 12) sc_law.nd rfl (.inr rfl)) (pgs_cons (pg_name (i := 4) sc_law.nd rfl (.inl rfl)) pgs_nil)))))
  (pss_one (ps_if (PW.pt (pw_or (pt_cmpR op_notA (pv 4) pe_non (nomark _)) (pw_or (pt_cmpR (op_neD hr.units) (pe_ix ix_seq (pv 12) pe_int (fun _ _ => rfl)) (pe_op op_addA (pe_ix ix_seq (pv 10) pe_int (fun _ _ => rfl)) pe_int) (nomark _)) (pw_or (pt_cmpR op_notA (pe_ix ix_seq (pv 12) pe_int (fun _ _ => rfl)) pe_non (nomark _)) (pw_or1 (pt_cmpR (op_neD hr.units) (pe_ix ix_seq (pv 12) pe_int (fun _ _ => rfl)) (pe_ix ix_seq (pv 10) pe_int (fun _ _ => rfl)) (nomark _))))))) (pss_one (ps_ret pe_bl)) pss_nil))))))))))
  (pss_cons (ps_if (PW.pt (pw_or (pt_cmpR (op_neD hr.units) (pe_ix ix_seq (pe_ix ix_seq (pv 12) pe_int (fun _ _ => rfl)) (pv 2) (fun _ _ => rfl)) (pe_ix ix_seq (pv 6) pe_int (fun _ _ => rfl)) (nomark _)) (pw_or1 (pt_cmpR (op_neD hr.units) (pe_ix ix_seq (pe_ix ix_seq (pv 12) pe_int (fun _ _ => rfl)) (pv 2) (fun _ _ => rfl)) (pe_cmpR op_isA (pe_ix ix_seq (pv 6) pe_int (fun _ _ => rfl)) pe_non (nomark _)) (nomark _))))) (pss_one (ps_ret pe_bl)) pss_nil)
  (pss_cons (ps_asg (pe_callSD (E := fun _ _ _ _ => False) (ok_gone T) (hr.mono (by decide)) (by rfl) T.g_gone T.F_gone.kp T.e_gone T.v_gone (fun σ => passNo σ) (pa_cons (pv 12) pa_nil)) (pg_or (pg_tup rfl (pgs_cons (pg_name (i := 12) sc_law.nd rfl (.inr rfl)) (pgs_cons (pg_name (i := 4) sc_law.nd rfl (.inl rfl)) pgs_nil))) (pg_lst rfl (pgs_cons (pg_name (i := 12) sc_law.nd rfl (.inr rfl)) (pgs_cons (pg_name (i := 4) sc_law.nd rfl (.inl rfl)) pgs_nil)))))
  (pss_cons (ps_if (PW.pt (pw_or (pt_cmpR (op_neD hr.units) (pv 4) (pe_tup (pa_cons pe_str (pa_cons pe_str pa_nil))) (nomark _)) (pw_or (pt_cmpR (op_neD hr.units) (pe_ix ix_seq (pv 12) pe_int (fun _ _ => rfl)) (pv 4) (nomark _)) (pw_or1 (pt_cmpR (op_neD hr.units) (pe_lam (k := 6) T.F__law_told (by rfl) T.g__law_told T.b__law_told sc__law_told rfl (Or.inl rfl) (fun cdv => gv__law_told T (hr.mono (by decide))) B.b_law rfl B.m_law B.u_law (hr.mono (by decide)) (LamX.lamS_by (sc := defScope s_law) (by decide +kernel)) rfl (fun _ _ _ _ _ => rfl) (fun A outer s H E f c' hr => (pe_callSD (ok_gone T) (hr.mono (by decide)) (by rfl) T.g_gone T.F_gone.kp T.e_gone T.v_gone (fun σ => passAt (takes_of rfl rfl rfl rfl) σ) (pa_cons (pv 12) pa_nil)))) (pe_tup (pa_cons pe_str (pa_cons pe_str pa_nil))) (nomark _)))))) (pss_one (ps_ret pe_bl)) pss_nil)
  (pss_cons (ps_asg (pe_callSD (E := fun _ _ _ _ => False) (ok_gone T) (hr.mono (by decide)) (by rfl) T.g_gone T.F_gone.kp T.e_gone T.v_gone (fun σ => passNo σ) (pa_cons (pe_callS (E := fun _ _ _ _ => False) (ok_begun T) (hr.mono (by decide)) (by rfl) T.g_begun T.F_begun.kp T.b_begun (fun σ => passNo σ) (pa_cons (pe_tup (pa_cons (pe_tup (pa_cons pe_str (pa_cons pe_int (pa_cons (pv 1) pa_nil)))) pa_nil)) (pa_cons (pe_tup pa_nil) pa_nil))) pa_nil)) (pg_or (pg_tup rfl (pgs_cons (pg_name (i := 12) sc_law.nd rfl (.inr rfl)) (pgs_cons (pg_name (i := 4) sc_law.nd rfl (.inl rfl)) pgs_nil))) (pg_lst rfl (pgs_cons (pg_name (i := 12) sc_law.nd rfl (.inr rfl)) (pgs_cons (pg_name (i := 4) sc_law.nd rfl (.inl rfl)) pgs_nil)))))
  (pss_one (ps_ret (pe_and (pe_cmpR op_isA (pv 4) pe_non (nomark _)) (pe_and (pe_cmpR (op_eqD hr.units) (pe_ix ix_seq (pe_callSD (E := fun _ _ _ _ => False) (ok_gone T) (hr.mono (by decide)) (by rfl) T.g_gone T.F_gone.kp T.e_gone T.v_gone (fun σ => passNo σ) (pa_cons (pv 12) pa_nil)) pe_int (fun _ _ => rfl)) (pe_tup (pa_cons pe_str (pa_cons pe_str pa_nil))) (nomark _)) (pe_one (pe_cmpR (op_eqD hr.units) (pe_ix ix_seq (pe_callSD (E := fun _ _ _ _ => False) (ok_gone T) (hr.mono (by decide)) (by rfl) T.g_gone T.F_gone.kp T.e_gone T.v_gone (fun σ => passNo σ) (pa_cons (pe_callS (E := fun _ _ _ _ => False) (ok_begun T) (hr.mono (by decide)) (by rfl) T.g_begun T.F_begun.kp T.b_begun (fun σ => passNo σ) (pa_cons (pe_tup (pa_cons (pe_tup (pa_cons pe_str (pa_cons pe_int pa_nil))) pa_nil)) (pa_cons (pe_tup (pa_cons (pv 1) pa_nil)) pa_nil))) pa_nil)) pe_int (fun _ _ => rfl)) (pe_tup (pa_cons pe_str (pa_cons (pv 1) pa_nil))) (nomark _))))))))))))))))))))),
  ((st_seq (st_par (ev_call' (ea_cons (ev_var 0) (ea_cons ev_int (ea_cons ev_int ea_nil)))) (ev_op rd_add ev_int (ev_call' (ea_cons (ev_var 0) (ea_cons ev_int (ea_cons ev_int ea_nil))))))
  (st_seq (st_set 3 (ev_tup (ea_cons (ev_tup (ea_cons ev_str (ea_cons ev_int (ea_cons (ev_var 1) ea_nil)))) (ea_cons (ev_tup (ea_cons ev_str (ea_cons (ev_var 2) ea_nil))) (ea_cons (ev_tup (ea_cons ev_str (ea_cons ev_int (ea_cons (ev_tup (ea_cons ev_int (ea_cons ev_int ea_nil))) ea_nil)))) (ea_cons (ev_tup (ea_cons ev_str (ea_cons (ev_tup (ea_cons ev_int ea_nil)) ea_nil))) (ea_cons (ev_tup (ea_cons ev_str ea_nil)) (ea_cons (ev_tup (ea_cons ev_str (ea_cons ev_int (ea_cons ev_int (ea_cons ev_int ea_nil))))) (ea_cons (ev_tup (ea_cons ev_str (ea_cons ev_int ea_nil))) ea_nil)))))))))
  (st_seq (st_set 12 (ev_callX (ea_cons (ev_var 3) (ea_cons (ev_tup (ea_cons ev_int (ea_cons ev_int ea_nil))) ea_nil))))
  (st_seq (st_if (et_test (ev_op rd_ne (ev_var 12) (ev_tup (ea_cons (ev_var 3) (ea_cons ev_int (ea_cons (ev_tup (ea_cons ev_int (ea_cons ev_int (ea_cons ev_int (ea_cons ev_int (ea_cons ev_int (ea_cons ev_int (ea_cons ev_int (ea_cons ev_int ea_nil))))))))) (ea_cons (ev_op rd_mul (ev_tup (ea_cons ev_non ea_nil)) ev_int) (ea_cons (ev_op rd_mul (ev_tup (ea_cons ev_bl ea_nil)) ev_int) (ea_cons ev_non ea_nil)))))))))
  (st_ret ev_bl)
  st_next)
  (st_seq (st_if (et_test (ev_op rd_ne (ev_lam (cl := T.cl) (ok := okA) (res := (rSuite 2 1 b__law_told)) (ex_call (ea_cons (ev_var 12) (ea_cons (ev_tup (ea_cons ev_str (ea_cons ev_bl ea_nil))) ea_nil)))) (ev_tup (ea_cons ev_str (ea_cons ev_str ea_nil)))))
  (st_ret ev_bl)
  st_next)
  (st_seq (st_asg (vs := [12, 4]) (ev_callXD (fun H => (.cons .non .nil)) (ea_cons (ev_var 12) ea_nil)) (tg_any (n := 2) (tgs_cons (tg_name 12 (by decide)) (tgs_cons (tg_name 4 (by decide)) tgs_nil))))
  (st_seq (st_if (et_or (et_test (ev_op rd_isnot (ev_var 4) ev_non)) (et_test (ev_op rd_ne (ev_var 12) (ev_tup (ea_cons (ev_var 3) (ea_cons ev_int (ea_cons (ev_tup (ea_cons ev_int (ea_cons ev_int (ea_cons ev_int (ea_cons (ev_var 1) (ea_cons ev_int (ea_cons ev_int (ea_cons ev_int (ea_cons ev_int ea_nil))))))))) (ea_cons (ev_op rd_mul (ev_tup (ea_cons ev_non ea_nil)) ev_int) (ea_cons (ev_op rd_mul (ev_tup (ea_cons ev_bl ea_nil)) ev_int) (ea_cons ev_non ea_nil))))))))))
  (st_ret ev_bl)
  st_next)
  (st_seq (st_set 5 (ev_list (fl_lst (ea_cons (ev_tup (ea_cons ev_str (ea_cons (ev_var 2) ea_nil))) (ea_cons (ev_tup (ea_cons ev_str (ea_cons ev_int (ea_cons (ev_tup (ea_cons (ev_var 1) (ea_cons ev_int ea_nil))) ea_nil)))) (ea_cons (ev_tup (ea_cons ev_str (ea_cons (ev_tup (ea_cons (ev_var 1) ea_nil)) ea_nil))) (ea_cons (ev_tup (ea_cons ev_str ea_nil)) ea_nil)))))))
  (st_seq (st_set 6 (ev_list (fl_lst (ea_cons (ev_if (et_test (ev_op rd_eq (ev_call' (ea_cons (ev_var 0) (ea_cons ev_int (ea_cons ev_int ea_nil)))) ev_int)) (ev_tup (ea_cons (ev_var 1) (ea_cons ev_int ea_nil))) ev_non) (ea_cons ev_bl (ea_cons ev_bl (ea_cons ev_bl ea_nil)))))))
  (st_seq (st_for (vs := [7, 8]) (it_zipX (ea_cons (ev_var 5) (ea_cons (ev_var 6) ea_nil))) (tg_tup (tgs_cons (tg_name 7 (by decide)) (tgs_cons (tg_name 8 (by decide)) tgs_nil)))
  (st_seq (st_asg (vs := [12, 4]) (ev_callXD (fun H => (.cons .non .nil)) (ea_cons (ev_var 12) ea_nil)) (tg_any (n := 2) (tgs_cons (tg_name 12 (by decide)) (tgs_cons (tg_name 4 (by decide)) tgs_nil))))
  (st_seq (st_if (et_or (et_test (ev_op rd_ne (ev_var 4) (ev_var 7))) (et_test (ev_op rd_ne (ev_op rd_ix (ev_var 12) ev_int) (ev_var 7))))
  (st_ret ev_bl)
  st_next)
  (st_seq (st_own 9 (fl_lst (ea_cons ev_non (ea_cons ev_bl (ea_cons (ev_tup ea_nil) (ea_cons (ev_tup (ea_cons ev_str ea_nil)) (ea_cons (ev_list (fl_lst (ea_cons ev_str (ea_cons (ev_var 8) ea_nil)))) (ea_cons (ev_tup (ea_cons ev_str (ea_cons (ev_var 8) ea_nil))) (ea_cons (ev_tup (ea_cons ev_str (ea_cons (ev_var 8) (ea_cons (ev_var 8) ea_nil)))) (ea_cons (ev_tup (ea_cons ev_str (ea_cons ev_int ea_nil))) (ea_cons (ev_tup (ea_cons ev_str (ea_cons (ev_tup ea_nil) ea_nil))) ea_nil)))))))))))
  (st_seq (st_append (i := 9) (ev_tup (ea_cons ev_str (ea_cons (ev_if (et_test (ev_op rd_ne (ev_op rd_ix (ev_var 7) ev_int) ev_str)) ev_non ev_bl) ea_nil))))
  (st_seq (st_frz 9 (st_for (vs := [11]) (it_any (ev_var 9)) (tg_name 11 (by decide))
  (st_if (et_test (ev_op rd_ne (ev_lam (cl := T.cl) (ok := okA) (res := (rSuite 2 1 b__law_told)) (ex_call (ea_cons (ev_var 12) (ea_cons (ev_var 11) ea_nil)))) (ev_tup (ea_cons ev_str (ea_cons ev_str ea_nil)))))
  (st_ret ev_bl)
  st_next)))
  (st_seq (st_set 10 (ev_var 12))
  (st_seq (st_asg (vs := [12, 4]) (ev_callX (ea_cons (ev_var 12) (ea_cons (ev_tup (ea_cons ev_str (ea_cons (ev_var 8) ea_nil))) ea_nil))) (tg_any (n := 2) (tgs_cons (tg_name 12 (by decide)) (tgs_cons (tg_name 4 (by decide)) tgs_nil))))
  (st_if (et_or (et_test (ev_op rd_isnot (ev_var 4) ev_non)) (et_or (et_test (ev_op rd_ne (ev_op rd_ix (ev_var 12) ev_int) (ev_op rd_add (ev_op rd_ix (ev_var 10) ev_int) ev_int))) (et_or (et_test (ev_op rd_isnot (ev_op rd_ix (ev_var 12) ev_int) ev_non)) (et_test (ev_op rd_ne (ev_op rd_ix (ev_var 12) ev_int) (ev_op rd_ix (ev_var 10) ev_int))))))
  (st_ret ev_bl)
  st_next)))))))))
  (st_seq (st_if (et_or (et_test (ev_op rd_ne (ev_op rd_ix (ev_op rd_ix (ev_var 12) ev_int) (ev_var 2)) (ev_op rd_ix (ev_var 6) ev_int))) (et_test (ev_op rd_ne (ev_op rd_ix (ev_op rd_ix (ev_var 12) ev_int) (ev_var 2)) (ev_op rd_is (ev_op rd_ix (ev_var 6) ev_int) ev_non))))
  (st_ret ev_bl)
  st_next)
  (st_seq (st_asg (vs := [12, 4]) (ev_callXD (fun H => (.cons .non .nil)) (ea_cons (ev_var 12) ea_nil)) (tg_any (n := 2) (tgs_cons (tg_name 12 (by decide)) (tgs_cons (tg_name 4 (by decide)) tgs_nil))))
  (st_seq (st_if (et_or (et_test (ev_op rd_ne (ev_var 4) (ev_tup (ea_cons ev_str (ea_cons ev_str ea_nil))))) (et_or (et_test (ev_op rd_ne (ev_op rd_ix (ev_var 12) ev_int) (ev_var 4))) (et_test (ev_op rd_ne (ev_lam (cl := T.cl) (ok := okA) (res := (rSuite 2 1 b__law_told)) (ex_callD (fun H => (.cons .non .nil)) (ea_cons (ev_var 12) ea_nil))) (ev_tup (ea_cons ev_str (ea_cons ev_str ea_nil)))))))
  (st_ret ev_bl)
  st_next)
  (st_seq (st_asg (vs := [12, 4]) (ev_callXD (fun H => (.cons .non .nil)) (ea_cons (ev_callX (ea_cons (ev_tup (ea_cons (ev_tup (ea_cons ev_str (ea_cons ev_int (ea_cons (ev_var 1) ea_nil)))) ea_nil)) (ea_cons (ev_tup ea_nil) ea_nil))) ea_nil)) (tg_any (n := 2) (tgs_cons (tg_name 12 (by decide)) (tgs_cons (tg_name 4 (by decide)) tgs_nil))))
  (st_ret (ev_andV (ev_op rd_is (ev_var 4) ev_non) (ev_andV (ev_op rd_eq (ev_op rd_ix (ev_callXD (fun H => (.cons .non .nil)) (ea_cons (ev_var 12) ea_nil)) ev_int) (ev_tup (ea_cons ev_str (ea_cons ev_str ea_nil)))) (ev_op rd_eq (ev_op rd_ix (ev_callXD (fun H => (.cons .non .nil)) (ea_cons (ev_callX (ea_cons (ev_tup (ea_cons (ev_tup (ea_cons ev_str (ea_cons ev_int ea_nil))) ea_nil)) (ea_cons (ev_tup (ea_cons (ev_var 1) ea_nil)) ea_nil))) ea_nil)) ev_int) (ev_tup (ea_cons ev_str (ea_cons (ev_var 1) ea_nil))))))))))))))))))))) : TSm K _ b_law)⟩
end
end DD

set_option Elab.async false
set_option linter.all false
set_option maxRecDepth 100000
set_option maxHeartbeats 4000000
namespace DD
local instance : TabQ := ⟨[]⟩
local instance : ExQ := ⟨0, 0⟩
open PySem PySem.Spec PyProof.Rows L2
theorem k_pick : m__law_pick = m_pick := rfl
theorem k_word : m_is_word = R.m_is_word := rfl
theorem k_rec : m_is_record = R.m_is_record := rfl
theorem is_code_eq {ds : List D} {f : D → Bool} (h : ds.length ≤ cap) (hf : ∀ st ∈ ds, m__is_step [st, .int (ds.length : Nat)] = some (.bool (f st))) :
    m_is_code [.tuple ds] = some (.bool ((decide ((1 : Int) ≤ ds.length) && decide ((ds.length : Int) ≤ 30)) && ds.all f)) := by
  have v0 : mVar 0 (start0 2 [.tuple ds]) = some (.tuple ds) := rfl
  have ln : mCall dLen (mCons (mVar 0) mNil) (start0 2 [.tuple ds]) = some (.int ds.length) := by rw [call_of (cons_of v0 nil_of), dLen_tup h]
  have q1 : mChain dLe dLe (mC (.int 1)) (mCall dLen (mCons (mVar 0) mNil)) (mC (.int 30)) (start0 2 [.tuple ds]) = some (.bool (decide ((1 : Int) ≤ ds.length) && decide ((ds.length : Int) ≤ 30))) :=
    chain_of (x := .int 1) (y := .int ds.length) (z := .int 30) rfl ln rfl rfl rfl
  have q2 : mOr (mNot (mTru (mUn (dIsi "tuple") (mVar 0)))) (mNot (mTest (mChain dLe dLe (mC (.int 1)) (mCall dLen (mCons (mVar 0) mNil)) (mC (.int 30))))) (start0 2 [.tuple ds]) = some (!(decide ((1 : Int) ≤ ds.length) && decide ((ds.length : Int) ≤ 30))) := by
    rw [or_f (show mNot (mTru (mUn (dIsi "tuple") (mVar 0))) (start0 2 [.tuple ds]) = some false from rfl), not_of (test_of q1)]
  cases hq : (decide ((1 : Int) ≤ ds.length) && decide ((ds.length : Int) ≤ 30)) with
  | false =>
    rw [hq] at q2
    refine mDef_rt ?_
    unfold b_is_code
    rw [seq_rt (d := .bool false) (by rw [if_t q2]; rfl)]
    rfl
  | true =>
    rw [hq] at q2
    refine mDef_rt ?_
    unfold b_is_code
    rw [seq_nx (by rw [if_f q2]; rfl)]
    refine ret_of ?_
    have hlc : mLc (mIter (mVar 0)) (gSet 1) mYes (mCall (lim 2 m__is_step) (mCons (mVar 1) (mCons (mCall dLen (mCons (mVar 0) mNil)) mNil))) [1] (start0 2 [.tuple ds]) = some (ds.map fun d => .bool (f d)) := by
      refine lc_of rfl h fun d hd => ⟨_, rfl, ?_⟩
      have w0 : mVar 0 [some (.val (.tuple ds)), some (.val d)] = some (.tuple ds) := rfl
      have ln2 : mCall dLen (mCons (mVar 0) mNil) [some (.val (.tuple ds)), some (.val d)] = some (.int ds.length) := by rw [call_of (cons_of w0 nil_of), dLen_tup h]
      have := call_of (g := lim 2 m__is_step) (cons_of (show mVar 1 [some (.val (.tuple ds)), some (.val d)] = some d from rfl) (cons_of ln2 nil_of))
      exact this.trans (hf d hd)
    rw [call_of (cons_of (list_of hlc) nil_of), dAll_map, Bool.true_and]
theorem word_ok {n : Int} (h0 : 0 ≤ n) (h1 : n ≤ 9999) : m_is_word [.int n] = some (.bool true) := by
  rw [k_word, R.word_eq]
  show some (PyData.bool (decide (0 ≤ n) && decide (n ≤ 9999))) = _
  rw [decide_eq_true h0, decide_eq_true h1]
  rfl
theorem rec_ok {n : Int} (h0 : 0 ≤ n) (h1 : n ≤ 9999) : m_is_record [.tuple [.int n, .int 8]] = some (.bool true) := by
  rw [k_rec, R.rec_eq (.tuple [.int n, .int 8]) (show 2 ≤ cap by decide)]
  show some (PyData.bool ((decide ((1 : Int) ≤ 2) && decide ((2 : Int) ≤ 8)) && ((decide (0 ≤ n) && decide (n ≤ 9999)) && ((decide ((0 : Int) ≤ 8) && decide ((8 : Int) ≤ 9999)) && true)))) = _
  rw [decide_eq_true h0, decide_eq_true h1]
  rfl
theorem part_n {n : Int} {x : D} (h0 : 0 ≤ n) (h1 : n ≤ 9999) : m__is_part [.int n, .str "n", x] = some (.bool true) := by
  refine mDef_rt ?_
  unfold b__is_part
  refine (seq_nx (ρ' := [some (.val (.int n)), some (.val (.str "n")), some (.val x)]) (by kernel_rfl)).trans (seq_rt ?_)
  rw [if_t (by kernel_rfl)]
  exact ret_of (show mCall (lim 1 m_is_word) (mCons (mVar 0) mNil) [some (.val (.int n)), some (.val (.str "n")), some (.val x)] = some (.bool true) from word_ok h0 h1)
theorem part_3 (x : D) : m__is_part [.int 3, .str "r", x] = some (.bool true) := by kernel_rfl
theorem part_0 (x : D) : m__is_part [.int 0, .str "r", x] = some (.bool true) := by kernel_rfl
theorem step_set {r n : Int} {x : D} (hr : r = 3 ∨ r = 0) (h0 : 0 ≤ n) (h1 : n ≤ 9999) : m__is_step [.tuple [.str "set", .int r, .int n], x] = some (.bool true) := by
  have pr : m__is_part [.int r, .str "r", x] = some (.bool true) := by
    rcases hr with rfl | rfl
    · exact part_3 x
    · exact part_0 x
  refine mDef_rt ?_
  unfold b__is_step
  refine (seq_nx (ρ' := [some (.val (.tuple [.str "set", .int r, .int n])), some (.val x), none, none, none, none, none]) (by kernel_rfl)).trans ?_
  refine (seq_nx (ρ' := [some (.val (.tuple [.str "set", .int r, .int n])), some (.val x), some (.val (.str "set")), some (.val (.list [.int r, .int n])), none, none, none]) (by kernel_rfl)).trans ?_
  refine (seq_nx (ρ' := [some (.val (.tuple [.str "set", .int r, .int n])), some (.val x), some (.val (.str "set")), some (.val (.list [.int r, .int n])), none, none, none]) (by kernel_rfl)).trans ?_
  refine (seq_nx (ρ' := [some (.val (.tuple [.str "set", .int r, .int n])), some (.val x), some (.val (.str "set")), some (.val (.list [.int r, .int n])), some (.val (.tuple [.str "r", .str "n"])), none, none]) (by kernel_rfl)).trans ?_
  refine (seq_nx (ρ' := [some (.val (.tuple [.str "set", .int r, .int n])), some (.val x), some (.val (.str "set")), some (.val (.list [.int r, .int n])), some (.val (.tuple [.str "r", .str "n"])), none, none]) (by kernel_rfl)).trans ?_
  refine ret_of ?_
  rw [call_of (cons_of (list_of (lc_of (ds := [.tuple [.int r, .str "r"], .tuple [.int n, .str "n"]]) (f := fun _ => .bool true) (by kernel_rfl) (show 2 ≤ cap by decide) fun d hd => ?_)) nil_of)]
  · rfl
  · simp only [List.mem_cons, List.not_mem_nil, or_false] at hd
    rcases hd with rfl | rfl
    · exact ⟨_, rfl, pr⟩
    · exact ⟨_, rfl, part_n h0 h1⟩
theorem demand_ok {c : D} (h : m_is_code [c] = some (.bool true)) : m_demand_code [c] = some (.ok .none) := by
  have t : mNot (mTru (mCall (lim 1 m_is_code) (mCons (mVar 0) mNil))) (start0 1 [c]) = some false := by
    have e : mCall (lim 1 m_is_code) (mCons (mVar 0) mNil) (start0 1 [c]) = some (.bool true) := h
    rw [not_of (tru_of e)]
    rfl
  unfold m_demand_code xDef b_demand_code xIf
  rw [t]
  rfl
theorem xseq_nx {a b : En → Option FlX} {ρ ρ' : En} (h : a ρ = some (.fl (.nx ρ'))) : xSeq a b ρ = b ρ' := by
  unfold xSeq
  rw [h]
  rfl
theorem xdrop_ok {m : En → Option Rs} {ρ : En} {d : D} (h : m ρ = some (.ok d)) : xDrop m ρ = some (.fl (.nx ρ)) := by
  unfold xDrop
  rw [h]
  rfl
def BEG (c : D) (ps : List D) : D := .tuple [c, .int 0, .tuple ps, .tuple [.none, .none, .none, .none, .none, .none], .tuple [.bool false, .bool false, .bool false, .bool false, .bool false, .bool false], .none]
theorem begun_2 {c x y : D} (h : m_is_code [c] = some (.bool true)) : m_begun [c, .tuple [x, y]] = some (.ok (BEG c [x, y, .int 0, .int 0, .int 0, .int 0, .int 0, .int 0])) := by
  have e : xCall 1 m_demand_code (mCons (mVar 0) mNil) (start0 3 [c, .tuple [x, y]]) = some (.ok .none) := demand_ok h
  unfold m_begun xDef b_begun
  rw [xseq_nx (xdrop_ok e)]
  kernel_rfl
theorem begun_0 {c : D} (h : m_is_code [c] = some (.bool true)) : m_begun [c, .tuple []] = some (.ok (BEG c [.int 0, .int 0, .int 0, .int 0, .int 0, .int 0, .int 0, .int 0])) := by
  have e : xCall 1 m_demand_code (mCons (mVar 0) mNil) (start0 3 [c, .tuple []]) = some (.ok .none) := demand_ok h
  unfold m_begun xDef b_begun
  rw [xseq_nx (xdrop_ok e)]
  kernel_rfl
theorem begun_1 {c x : D} (h : m_is_code [c] = some (.bool true)) : m_begun [c, .tuple [x]] = some (.ok (BEG c [x, .int 0, .int 0, .int 0, .int 0, .int 0, .int 0, .int 0])) := by
  have e : xCall 1 m_demand_code (mCons (mVar 0) mNil) (start0 3 [c, .tuple [x]]) = some (.ok .none) := demand_ok h
  unfold m_begun xDef b_begun
  rw [xseq_nx (xdrop_ok e)]
  kernel_rfl
def cod (n m : Int) : D := .tuple [.tuple [.str "set", .int 3, .int n], .tuple [.str "take", .int m], .tuple [.str "put", .int 0, .tuple [.int 3, .int 0]], .tuple [.str "line", .tuple [.int 3]], .tuple [.str "mark"], .tuple [.str "div", .int 1, .int 3, .int 7], .tuple [.str "end", .int 3]]
theorem steps_rest (m : Int) (hm : m = 1 ∨ m = 2 ∨ m = 3 ∨ m = 4 ∨ m = 5) : [PyData.tuple [.str "take", .int m], .tuple [.str "put", .int 0, .tuple [.int 3, .int 0]], .tuple [.str "line", .tuple [.int 3]], .tuple [.str "mark"], .tuple [.str "div", .int 1, .int 3, .int 7], .tuple [.str "end", .int 3]].map (fun d => m__is_step [d, .int 7]) = List.replicate 6 (some (.bool true)) := by
  rcases hm with rfl | rfl | rfl | rfl | rfl <;> kernel_rfl
theorem cod_ok {n m : Int} (h0 : 0 ≤ n) (h1 : n ≤ 9999) (hm : m = 1 ∨ m = 2 ∨ m = 3 ∨ m = 4 ∨ m = 5) : m_is_code [cod n m] = some (.bool true) := by
  unfold cod
  have sr := steps_rest m hm
  simp only [List.map_cons, List.map_nil, List.replicate, List.cons.injEq, and_true] at sr
  obtain ⟨s1, s2, s3, s4, s5, s6⟩ := sr
  refine (is_code_eq (f := fun _ => true) ?_ fun st hst => ?_).trans rfl
  · show 7 ≤ cap
    decide
  · simp only [List.mem_cons, List.not_mem_nil, or_false] at hst
    rcases hst with rfl | rfl | rfl | rfl | rfl | rfl | rfl
    · exact step_set (.inl rfl) h0 h1
    · exact s1
    · exact s2
    · exact s3
    · exact s4
    · exact s5
    · exact s6
theorem one_set {n : Int} (h0 : 0 ≤ n) (h1 : n ≤ 9999) : m_is_code [.tuple [.tuple [.str "set", .int 0, .int n]]] = some (.bool true) := by
  refine (is_code_eq (f := fun _ => true) ?_ fun st hst => ?_).trans rfl
  · show 1 ≤ cap
    decide
  · rw [List.mem_singleton.mp hst]
    exact step_set (.inr rfl) h0 h1
theorem one_end : m_is_code [.tuple [.tuple [.str "end", .int 0]]] = some (.bool true) := by kernel_rfl
end DD

set_option Elab.async false
set_option linter.all false
set_option maxRecDepth 100000
set_option maxHeartbeats 4000000
namespace DD
local instance : TabQ := ⟨[]⟩
local instance : ExQ := ⟨0, 0⟩
open PySem PySem.Spec PyProof.Rows L2
def regs (r : Int) : D := .tuple [.int 5, .int 6, .int 0, .int r, .int 0, .int 0, .int 0, .int 0]
def MD (n m pl r : Int) (recs ends w : D) : D := .tuple [cod n m, .int pl, regs r, recs, ends, w]
def no6 : List D := [.none, .none, .none, .none, .none, .none]
def fa6 : List D := [.bool false, .bool false, .bool false, .bool false, .bool false, .bool false]
def nx (m : Int) : D := .tuple [.str "next", .int m]
def pu (n : Int) : D := .tuple [.str "put", .int 0, .tuple [.int n, .int 5]]
def li (n : Int) : D := .tuple [.str "line", .tuple [.int n]]
def ma : D := .tuple [.str "mark"]
def fz : D := .tuple [.str "fault", .str "zero"]
def told (d : D) : D := .tuple [.str "told", d]
def m5 (m : Int) : Prop := m = 1 ∨ m = 2 ∨ m = 3 ∨ m = 4 ∨ m = 5
def two (a b : D) : Option Rs := some (.ok (.tuple [a, b]))
theorem gone_0 (n m : Int) : m_gone [MD n m 0 0 (.tuple no6) (.tuple fa6) .none, .none] = two (MD n m 1 n (.tuple no6) (.tuple fa6) .none) .none := by kernel_rfl
theorem gone_told (n m : Int) (R E : D) : m_gone [MD n m 0 0 R E .none, told (.bool true)] = some (.ex 0) := by kernel_rfl
theorem gone_1 (n m : Int) (R E : D) : m_gone [MD n m 1 n R E .none, .none] = two (MD n m 1 n R E (nx m)) (nx m) := by kernel_rfl
theorem gone_2 (n m : Int) (R E : D) : m_gone [MD n m 2 n R E .none, .none] = two (MD n m 2 n R E (pu n)) (pu n) := by kernel_rfl
theorem gone_3 (n m : Int) (R E : D) : m_gone [MD n m 3 n R E .none, .none] = two (MD n m 3 n R E (li n)) (li n) := by kernel_rfl
theorem gone_4 (n m : Int) (R E : D) : m_gone [MD n m 4 n R E .none, .none] = two (MD n m 4 n R E ma) ma := by kernel_rfl
theorem gone_5 (n m : Int) (R E : D) : m_gone [MD n m 5 n R E .none, .none] = two (MD n m 5 n R E fz) fz := by kernel_rfl
theorem gone_z (n m : Int) (R E : D) : m_gone [MD n m 5 n R E fz, .none] = some (.ex 0) := by kernel_rfl
theorem ans_2 (n m : Int) (R E : D) : m_gone [MD n m 2 n R E (pu n), told (.bool true)] = two (MD n m 3 n R E .none) .none := by kernel_rfl
theorem ans_3 (n m : Int) (R E : D) : m_gone [MD n m 3 n R E (li n), told (.bool true)] = two (MD n m 4 n R E .none) .none := by kernel_rfl
theorem ans_4 (n m : Int) (R E : D) : m_gone [MD n m 4 n R E ma, told (.bool true)] = two (MD n m 5 n R E .none) .none := by kernel_rfl
theorem ans_none (n m : Int) (h : m5 m) : m_gone [MD n m 1 n (.tuple no6) (.tuple fa6) (nx m), told .none] = two (MD n m 2 n (.tuple (no6.set m.toNat .none)) (.tuple (fa6.set m.toNat (.bool true))) .none) .none := by
  rcases h with rfl | rfl | rfl | rfl | rfl <;> kernel_rfl
def rec8 (n : Int) : D := .tuple [.int n, .int 8]
theorem fits_rec {n m : Int} (h0 : 0 ≤ n) (h1 : n ≤ 9999) : m__fits [nx m, told (rec8 n)] = some (.bool true) := by
  refine mDef_rt ?_
  unfold b__fits
  refine (seq_nx (ρ' := [some (.val (nx m)), some (.val (told (rec8 n)))]) (by kernel_rfl)).trans (seq_rt ?_)
  rw [if_t (by kernel_rfl)]
  refine ret_of ?_
  have e : mCall (lim 1 m_is_record) (mCons (mOp dIx (mVar 1) (mC (.int 1))) mNil) [some (.val (nx m)), some (.val (told (rec8 n)))] = some (.bool true) := rec_ok h0 h1
  exact e
theorem ans_rec {n m : Int} (h0 : 0 ≤ n) (h1 : n ≤ 9999) (h : m5 m) : m_gone [MD n m 1 n (.tuple no6) (.tuple fa6) (nx m), told (rec8 n)] = two (MD n m 2 n (.tuple (no6.set m.toNat (rec8 n))) (.tuple (fa6.set m.toNat (.bool false))) .none) .none := by
  have key : m__answered [MD n m 1 n (.tuple no6) (.tuple fa6) (nx m), told (rec8 n)] = some (.ok (MD n m 2 n (.tuple (no6.set m.toNat (rec8 n))) (.tuple (fa6.set m.toNat (.bool false))) .none)) := by
    unfold m__answered xDef b__answered
    rw [xseq_nx (ρ' := [some (.val (MD n m 1 n (.tuple no6) (.tuple fa6) (nx m))), some (.val (told (rec8 n))), some (.val (nx m))]) (by kernel_rfl)]
    have ft : mNot (mTru (mCall (lim 2 m__fits) (mCons (mVar 2) (mCons (mVar 1) mNil)))) [some (.val (MD n m 1 n (.tuple no6) (.tuple fa6) (nx m))), some (.val (told (rec8 n))), some (.val (nx m))] = some false := by
      have e : mCall (lim 2 m__fits) (mCons (mVar 2) (mCons (mVar 1) mNil)) [some (.val (MD n m 1 n (.tuple no6) (.tuple fa6) (nx m))), some (.val (told (rec8 n))), some (.val (nx m))] = some (.bool true) := fits_rec h0 h1
      rw [not_of (tru_of e)]
      rfl
    rw [xseq_nx (ρ' := [some (.val (MD n m 1 n (.tuple no6) (.tuple fa6) (nx m))), some (.val (told (rec8 n))), some (.val (nx m))]) (by unfold xIf; rw [ft]; rfl)]
    rcases h with rfl | rfl | rfl | rfl | rfl <;> kernel_rfl
  have e : xCall 2 m__answered (mCons (mVar 0) (mCons (mVar 1) mNil)) (start0 2 [MD n m 1 n (.tuple no6) (.tuple fa6) (nx m), told (rec8 n)]) = some (.ok (MD n m 2 n (.tuple (no6.set m.toNat (rec8 n))) (.tuple (fa6.set m.toNat (.bool false))) .none)) := key
  unfold m_gone xDef b_gone
  have q : xIf (mTest (mOp dIsNot (mOp dIx (mVar 0) (mC (.int (5)))) (mC .none))) (xRet (xTupC (xCall 2 m__answered (mCons (mVar 0) (mCons (mVar 1) mNil))) (mCons (mC .none) mNil))) (xFl sNext) (start0 2 [MD n m 1 n (.tuple no6) (.tuple fa6) (nx m), told (rec8 n)]) = some (.fl (.rt (.tuple [MD n m 2 n (.tuple (no6.set m.toNat (rec8 n))) (.tuple (fa6.set m.toNat (.bool false))) .none, .none]))) := by
    have t : mTest (mOp dIsNot (mOp dIx (mVar 0) (mC (.int (5)))) (mC .none)) (start0 2 [MD n m 1 n (.tuple no6) (.tuple fa6) (nx m), told (rec8 n)]) = some true := by kernel_rfl
    unfold xIf
    rw [t]
    show xRet (xTupC (xCall 2 m__answered (mCons (mVar 0) (mCons (mVar 1) mNil))) (mCons (mC .none) mNil)) (start0 2 [MD n m 1 n (.tuple no6) (.tuple fa6) (nx m), told (rec8 n)]) = _
    unfold xRet xTupC
    rw [e]
    rfl
  unfold xSeq
  rw [q]
  rfl
/-! answers that do not fit -/
def BADS (f : D) (x : Bool) : List D := [.none, .bool true, .tuple [], .tuple [.str "told"], .list [.str "told", f], .tuple [.str "no", f], .tuple [.str "told", f, f], told (.int 5), told (.tuple []), told (if x = true then .none else .bool true)]
theorem bad_1 (n m : Int) (R E f : D) : (BADS f false).map (fun b => m_gone [MD n m 1 n R E (nx m), b]) = List.replicate 10 (some (.ex 0)) := by kernel_rfl
theorem bad_2 (n m : Int) (R E f : D) : (BADS f true).map (fun b => m_gone [MD n m 2 n R E (pu n), b]) = List.replicate 10 (some (.ex 0)) := by kernel_rfl
theorem bad_3 (n m : Int) (R E f : D) : (BADS f true).map (fun b => m_gone [MD n m 3 n R E (li n), b]) = List.replicate 10 (some (.ex 0)) := by kernel_rfl
theorem bad_4 (n m : Int) (R E f : D) : (BADS f true).map (fun b => m_gone [MD n m 4 n R E ma, b]) = List.replicate 10 (some (.ex 0)) := by kernel_rfl
theorem bad_of {l : List D} {g : D → Option Rs} (h : l.map g = List.replicate 10 (some (.ex 0))) : ∀ b ∈ l, g b = some (.ex 0) := fun b hb => by
  have : g b ∈ l.map g := List.mem_map.mpr ⟨b, hb, rfl⟩
  rw [h] at this
  exact (List.mem_replicate.mp this).2
def REF : D := .tuple [.str ("refused" : Str), .str ("NoAnswer" : Str)]
theorem suite_0 : rSuite 2 1 b__law_told 0 = some REF := by kernel_rfl
theorem told_of {me : En → Option Rs} {ρ : En} (h : me ρ = some (.ex 0)) : mTold okA (rSuite 2 1 b__law_told) me ρ = some REF := by
  unfold mTold
  rw [h]
  exact suite_0
theorem ref_ne : dNe REF REF = some (.bool false) := by kernel_rfl
theorem refT {ρ : En} : mTup (mCons (mC (.str ("refused" : Str))) (mCons (mC (.str ("NoAnswer" : Str))) mNil)) ρ = some REF := rfl
theorem ne_of {me : En → Option Rs} {ρ : En} (h : me ρ = some (.ex 0)) : mTest (mOp dNe (mTold okA (rSuite 2 1 b__law_told) me) (mTup (mCons (mC (.str ("refused" : Str))) (mCons (mC (.str ("NoAnswer" : Str))) mNil)))) ρ = some false := by
  rw [test_of (c := false) (by rw [op_of (told_of h) refT]; exact ref_ne)]
theorem asg_any {a : En → Option D} {ρ : En} {x y : D} {i j : Nat} (h : a ρ = some (.tuple [x, y])) : sAsg a (gAnyM 2 (gConsM (gSet i) (gConsM (gSet j) gNilM))) ρ = some (.nx ((ρ.set i (some (.val x))).set j (some (.val y)))) := by
  unfold sAsg
  rw [h]
  rfl
theorem limD_of {M a b : D} (h : m_gone [M, .none] = two a b) : limD 2 [.none] m_gone [M] = some (.tuple [a, b]) := by
  show (m_gone [M, .none]).bind okR = _
  rw [h]
  rfl
def IB : En → Option Fl :=
  (sIf (mTest (mOp dNe (mTold okA (rSuite 2 1 b__law_told) (xCall 2 m_gone (mCons (mVar 12) (mCons (mVar 11) mNil)))) (mTup (mCons (mC (.str ("refused" : Str))) (mCons (mC (.str ("NoAnswer" : Str))) mNil)))))
  (sRet (mC (.bool false)))
  sNext)
def LB : En → Option Fl :=
  (sSeq (sAsg (mCall (limD 2 [.none] m_gone) (mCons (mVar 12) mNil)) (gAnyM 2 (gConsM (gSet 12) (gConsM (gSet 4) gNilM))))
  (sSeq (sIf (mOr (mTest (mOp dNe (mVar 4) (mVar 7))) (mTest (mOp dNe (mOp dIx (mVar 12) (mC (.int 5))) (mVar 7))))
  (sRet (mC (.bool false)))
  sNext)
  (sSeq (sOwn 9 (mLst (mCons (mC .none) (mCons (mC (.bool true)) (mCons (mTup mNil) (mCons (mTup (mCons (mC (.str ("told" : Str))) mNil)) (mCons (mList (mLst (mCons (mC (.str ("told" : Str))) (mCons (mVar 8) mNil)))) (mCons (mTup (mCons (mC (.str ("no" : Str))) (mCons (mVar 8) mNil))) (mCons (mTup (mCons (mC (.str ("told" : Str))) (mCons (mVar 8) (mCons (mVar 8) mNil)))) (mCons (mTup (mCons (mC (.str ("told" : Str))) (mCons (mC (.int 5)) mNil))) (mCons (mTup (mCons (mC (.str ("told" : Str))) (mCons (mTup mNil) mNil))) mNil)))))))))))
  (sSeq (sAppend 9 (mTup (mCons (mC (.str ("told" : Str))) (mCons (mIfE (mTest (mOp dNe (mOp dIx (mVar 7) (mC (.int 0))) (mC (.str ("next" : Str))))) (mC .none) (mC (.bool true))) mNil))))
  (sSeq (sFrz 9 (sFor (mIter (mVar 9)) (gSet 11)
  (sIf (mTest (mOp dNe (mTold okA (rSuite 2 1 b__law_told) (xCall 2 m_gone (mCons (mVar 12) (mCons (mVar 11) mNil)))) (mTup (mCons (mC (.str ("refused" : Str))) (mCons (mC (.str ("NoAnswer" : Str))) mNil)))))
  (sRet (mC (.bool false)))
  sNext)))
  (sSeq (sAsg (mVar 12) (gSet 10))
  (sSeq (sAsg (mCall (limX 2 m_gone) (mCons (mVar 12) (mCons (mTup (mCons (mC (.str ("told" : Str))) (mCons (mVar 8) mNil))) mNil))) (gAnyM 2 (gConsM (gSet 12) (gConsM (gSet 4) gNilM))))
  (sIf (mOr (mTest (mOp dIsNot (mVar 4) (mC .none))) (mOr (mTest (mOp dNe (mOp dIx (mVar 12) (mC (.int 1))) (mOp dAdd (mOp dIx (mVar 10) (mC (.int 1))) (mC (.int 1))))) (mOr (mTest (mOp dIsNot (mOp dIx (mVar 12) (mC (.int 5))) (mC .none))) (mTest (mOp dNe (mOp dIx (mVar 12) (mC (.int 2))) (mOp dIx (mVar 10) (mC (.int 2))))))))
  (sRet (mC (.bool false)))
  sNext))))))))
end DD

set_option Elab.async false
set_option linter.all false
set_option maxRecDepth 100000
set_option maxHeartbeats 4000000
namespace DD
local instance : TabQ := ⟨[]⟩
local instance : ExQ := ⟨0, 0⟩
open PySem PySem.Spec PyProof.Rows L2
def ev (L : D) (n m : Int) (s4 s5 s6 s7 s8 s9 s10 s11 s12 : Option Sl) : En := [some (.val L), some (.val (.int n)), some (.val (.int m)), some (.val (cod n m)), s4, s5, s6, s7, s8, s9, s10, s11, s12]
def sv (d : D) : Option Sl := some (.val d)
theorem limX_of {M b x y : D} (h : m_gone [M, b] = two x y) : limX 2 m_gone [M, b] = some (.tuple [x, y]) := by
  show (m_gone [M, b]).bind okR = _
  rw [h]
  rfl
section
variable {L W : D} {n m : Int} {s4 s5 s6 s7 s8 s9 s10 : Option Sl}
theorem ib_ok {b : D} (h : m_gone [W, b] = some (.ex 0)) : IB (ev L n m s4 s5 s6 s7 s8 s9 s10 (sv b) (sv W)) = some (.nx (ev L n m s4 s5 s6 s7 s8 s9 s10 (sv b) (sv W))) := by
  have x : xCall 2 m_gone (mCons (mVar 12) (mCons (mVar 11) mNil)) (ev L n m s4 s5 s6 s7 s8 s9 s10 (sv b) (sv W)) = some (.ex 0) := h
  unfold IB
  rw [if_f (ne_of x)]
  rfl
theorem loopI : ∀ (bs : List D) (s11 : Option Sl), (∀ b ∈ bs, m_gone [W, b] = some (.ex 0)) → ∃ r11, loop (gSet 11) IB bs (ev L n m s4 s5 s6 s7 s8 s9 s10 s11 (sv W)) = some (.nx (ev L n m s4 s5 s6 s7 s8 s9 s10 r11 (sv W)))
  | [], s11, _ => ⟨s11, rfl⟩
  | b :: bs, s11, h => by
    obtain ⟨r11, e⟩ := loopI bs (sv b) fun x hx => h x (List.mem_cons_of_mem _ hx)
    refine ⟨r11, ?_⟩
    rw [loop_cons (ρ1 := ev L n m s4 s5 s6 s7 s8 s9 s10 (sv b) (sv W)) rfl (ib_ok (h b List.mem_cons_self))]
    exact e
end
theorem ne_int (q : Int) : dNe (.int q) (.int q) = some (.bool false) := dNe_self lay_int (Nat.zero_le _)
theorem lb_ok {L M W M2 due fit R : D} {w : Str} {x : Bool} {n m q : Int} {s4 s5 s6 s9 s10 s11 : Option Sl} (h1 : m_gone [M, .none] = two W due) (h2 : dIx W (.int 5) = some due) (hd : dNe due due = some (.bool false)) (h8 : dIx due (.int 0) = some (.str w)) (h9 : dNe (.str w) (.str "next") = some (.bool x))
    (h3 : ∀ b ∈ BADS fit x, m_gone [W, b] = some (.ex 0)) (h4 : m_gone [W, told fit] = two M2 .none) (p1 : dIx W (.int 1) = some (.int q)) (p2 : dIx M2 (.int 1) = some (.int (q + 1))) (p5 : dIx M2 (.int 5) = some .none) (r1 : dIx W (.int 2) = some R) (r2 : dIx M2 (.int 2) = some R) (hR : dNe R R = some (.bool false)) :
    ∃ r9 r10 r11, LB (ev L n m s4 s5 s6 (sv due) (sv fit) s9 s10 s11 (sv M)) = some (.nx (ev L n m (sv .none) s5 s6 (sv due) (sv fit) r9 r10 r11 (sv M2))) := by
  obtain ⟨r11, w1⟩ := loopI (L := L) (W := W) (n := n) (m := m) (s4 := sv due) (s5 := s5) (s6 := s6) (s7 := sv due) (s8 := sv fit) (s9 := sv (.list (BADS fit x))) (s10 := s10) (BADS fit x) s11 h3
  refine ⟨sv (.list (BADS fit x)), sv W, r11, ?_⟩
  unfold LB
  refine (seq_nx (ρ' := ev L n m (sv due) s5 s6 (sv due) (sv fit) s9 s10 s11 (sv W)) ?_).trans ?_
  · exact (asg_any (x := W) (y := due) (show mCall (limD 2 [.none] m_gone) (mCons (mVar 12) mNil) (ev L n m s4 s5 s6 (sv due) (sv fit) s9 s10 s11 (sv M)) = _ from limD_of h1)).trans rfl
  refine (seq_nx (ρ' := ev L n m (sv due) s5 s6 (sv due) (sv fit) s9 s10 s11 (sv W)) ?_).trans ?_
  · have a1 : mTest (mOp dNe (mVar 4) (mVar 7)) (ev L n m (sv due) s5 s6 (sv due) (sv fit) s9 s10 s11 (sv W)) = some false := test_of ((op_of (x := due) (y := due) rfl rfl).trans hd)
    have a2 : mTest (mOp dNe (mOp dIx (mVar 12) (mC (.int 5))) (mVar 7)) (ev L n m (sv due) s5 s6 (sv due) (sv fit) s9 s10 s11 (sv W)) = some false := test_of ((op_of (x := due) (y := due) ((op_of (x := W) (y := .int 5) rfl rfl).trans h2) rfl).trans hd)
    rw [if_f (by rw [or_f a1]; exact a2)]
    rfl
  refine (seq_nx (ρ' := ev L n m (sv due) s5 s6 (sv due) (sv fit) (some (.own ((BADS fit x).take 9))) s10 s11 (sv W)) ?_).trans ?_
  · kernel_rfl
  refine (seq_nx (ρ' := ev L n m (sv due) s5 s6 (sv due) (sv fit) (some (.own (BADS fit x))) s10 s11 (sv W)) ?_).trans ?_
  · have t1 : mTest (mOp dNe (mOp dIx (mVar 7) (mC (.int 0))) (mC (.str ("next" : Str)))) (ev L n m (sv due) s5 s6 (sv due) (sv fit) (some (.own ((BADS fit x).take 9))) s10 s11 (sv W)) = some x := test_of ((op_of (x := .str w) (y := .str "next") ((op_of (x := due) (y := .int 0) rfl rfl).trans h8) rfl).trans h9)
    have t2 : mIfE (mTest (mOp dNe (mOp dIx (mVar 7) (mC (.int 0))) (mC (.str ("next" : Str))))) (mC .none) (mC (.bool true)) (ev L n m (sv due) s5 s6 (sv due) (sv fit) (some (.own ((BADS fit x).take 9))) s10 s11 (sv W)) = some (if x = true then .none else .bool true) := by
      cases x with
      | true => exact ifE_t t1
      | false => exact ifE_f t1
    have t3 := tup_of (cons_of (show mC (.str ("told" : Str)) (ev L n m (sv due) s5 s6 (sv due) (sv fit) (some (.own ((BADS fit x).take 9))) s10 s11 (sv W)) = some (.str "told") from rfl) (cons_of t2 nil_of)) (show 2 ≤ cap by decide)
    unfold sAppend
    rw [t3]
    kernel_rfl
  refine (seq_nx (ρ' := ev L n m (sv due) s5 s6 (sv due) (sv fit) (sv (.list (BADS fit x))) s10 r11 (sv W)) ?_).trans ?_
  · exact w1
  refine (seq_nx (ρ' := ev L n m (sv due) s5 s6 (sv due) (sv fit) (sv (.list (BADS fit x))) (sv W) r11 (sv W)) rfl).trans ?_
  refine (seq_nx (ρ' := ev L n m (sv .none) s5 s6 (sv due) (sv fit) (sv (.list (BADS fit x))) (sv W) r11 (sv M2)) ?_).trans ?_
  · exact (asg_any (x := M2) (y := .none) (show mCall (limX 2 m_gone) (mCons (mVar 12) (mCons (mTup (mCons (mC (.str ("told" : Str))) (mCons (mVar 8) mNil))) mNil)) (ev L n m (sv due) s5 s6 (sv due) (sv fit) (sv (.list (BADS fit x))) (sv W) r11 (sv W)) = _ from limX_of h4)).trans rfl
  · have c1 : mTest (mOp dIsNot (mVar 4) (mC .none)) (ev L n m (sv .none) s5 s6 (sv due) (sv fit) (sv (.list (BADS fit x))) (sv W) r11 (sv M2)) = some false := rfl
    have c2 : mTest (mOp dNe (mOp dIx (mVar 12) (mC (.int 1))) (mOp dAdd (mOp dIx (mVar 10) (mC (.int 1))) (mC (.int 1)))) (ev L n m (sv .none) s5 s6 (sv due) (sv fit) (sv (.list (BADS fit x))) (sv W) r11 (sv M2)) = some false :=
      test_of ((op_of (x := .int (q + 1)) (y := .int (q + 1)) ((op_of (x := M2) (y := .int 1) rfl rfl).trans p2) ((op_of (x := .int q) (y := .int 1) ((op_of (x := W) (y := .int 1) rfl rfl).trans p1) rfl).trans rfl)).trans (ne_int _))
    have c3 : mTest (mOp dIsNot (mOp dIx (mVar 12) (mC (.int 5))) (mC .none)) (ev L n m (sv .none) s5 s6 (sv due) (sv fit) (sv (.list (BADS fit x))) (sv W) r11 (sv M2)) = some false :=
      test_of ((op_of (x := .none) (y := .none) ((op_of (x := M2) (y := .int 5) rfl rfl).trans p5) rfl).trans rfl)
    have c4 : mTest (mOp dNe (mOp dIx (mVar 12) (mC (.int 2))) (mOp dIx (mVar 10) (mC (.int 2)))) (ev L n m (sv .none) s5 s6 (sv due) (sv fit) (sv (.list (BADS fit x))) (sv W) r11 (sv M2)) = some false :=
      test_of ((op_of (x := R) (y := R) ((op_of (x := M2) (y := .int 2) rfl rfl).trans r2) ((op_of (x := W) (y := .int 2) rfl rfl).trans r1)).trans hR)
    rw [if_f (by rw [or_f c1, or_f c2, or_f c3]; exact c4)]
    rfl
end DD

set_option Elab.async false
set_option linter.all false
set_option maxRecDepth 100000
set_option maxHeartbeats 4000000
namespace DD
local instance : TabQ := ⟨[]⟩
local instance : ExQ := ⟨0, 0⟩
open PySem PySem.Spec PyProof.Rows L2
def RHS3 : En → Option D := (mTup (mCons (mVar 3) (mCons (mC (.int 0)) (mCons (mTup (mCons (mC (.int 5)) (mCons (mC (.int 6)) (mCons (mC (.int 0)) (mCons (mC (.int 0)) (mCons (mC (.int 0)) (mCons (mC (.int 0)) (mCons (mC (.int 0)) (mCons (mC (.int 0)) mNil))))))))) (mCons (mOp dMul (mTup (mCons (mC .none) mNil)) (mC (.int 6))) (mCons (mOp dMul (mTup (mCons (mC (.bool false)) mNil)) (mC (.int 6))) (mCons (mC .none) mNil)))))))
def RHS6 : En → Option D := (mTup (mCons (mVar 3) (mCons (mC (.int 1)) (mCons (mTup (mCons (mC (.int 5)) (mCons (mC (.int 6)) (mCons (mC (.int 0)) (mCons (mVar 1) (mCons (mC (.int 0)) (mCons (mC (.int 0)) (mCons (mC (.int 0)) (mCons (mC (.int 0)) mNil))))))))) (mCons (mOp dMul (mTup (mCons (mC .none) mNil)) (mC (.int 6))) (mCons (mOp dMul (mTup (mCons (mC (.bool false)) mNil)) (mC (.int 6))) (mCons (mC .none) mNil)))))))
def C8 : En → Option Bool := (mTest (mOp dEq (mCall (lim 3 m__law_pick) (mCons (mVar 0) (mCons (mC (.int 2)) (mCons (mC (.int 2)) mNil)))) (mC (.int 0))))
def X13 : En → Option D := (mCall (limD 2 [.none] m_gone) (mCons (mCall (limX 2 m_begun) (mCons (mTup (mCons (mTup (mCons (mC (.str ("set" : Str))) (mCons (mC (.int 0)) (mCons (mVar 1) mNil)))) mNil)) (mCons (mTup mNil) mNil))) mNil))
theorem lay_of {d : D} (h : d.canLay0 = true) (k : decide (d.depth ≤ 9) = true) : Lay 9 d := ⟨h, of_decide_eq_true k⟩
theorem ne9 {d : D} (h : Lay 9 d) : dNe d d = some (.bool false) := dNe_self h (by decide)
theorem eq9 {d : D} (h : Lay 9 d) : dEq d d = some (.bool true) := by
  rw [dEq_of (h.shaped (by decide)) (h.shaped (by decide)), SeqAt.eqv_refl _ h.1]
theorem lay_M0 (n m : Int) : Lay 9 (MD n m 0 0 (.tuple no6) (.tuple fa6) .none) := lay_of (by kernel_rfl) (by kernel_rfl)
theorem lay_M1 (n m : Int) : Lay 9 (MD n m 1 n (.tuple no6) (.tuple fa6) .none) := lay_of (by kernel_rfl) (by kernel_rfl)
theorem lay_nx (m : Int) : Lay 9 (nx m) := lay_of (by kernel_rfl) (by kernel_rfl)
theorem lay_pu (n : Int) : Lay 9 (pu n) := lay_of (by kernel_rfl) (by kernel_rfl)
theorem lay_li (n : Int) : Lay 9 (li n) := lay_of (by kernel_rfl) (by kernel_rfl)
theorem lay_ma : Lay 9 ma := lay_of (by kernel_rfl) (by kernel_rfl)
theorem lay_regs (n : Int) : Lay 9 (regs n) := lay_of (by kernel_rfl) (by kernel_rfl)
theorem lay_rec (n : Int) : Lay 9 (rec8 n) := lay_of (by kernel_rfl) (by kernel_rfl)
def en (n : Int) : D := .tuple [.str "end", .int n]
theorem lay_en (n : Int) : Lay 9 (en n) := lay_of (by kernel_rfl) (by kernel_rfl)
theorem at_m {m : Int} (h : m5 m) (d : D) : dIx (.tuple (no6.set m.toNat d)) (.int m) = some d := by
  rcases h with rfl | rfl | rfl | rfl | rfl <;> kernel_rfl
theorem at_e {m : Int} (h : m5 m) (d : D) : dIx (.tuple (fa6.set m.toNat d)) (.int m) = some d := by
  rcases h with rfl | rfl | rfl | rfl | rfl <;> kernel_rfl
/-- the four turns -/
theorem loop4 {L fit : D} {n m : Int} {b : Bool} {s4 s5 s6 s7 s8 s9 s10 s11 : Option Sl} (hf : m_gone [MD n m 1 n (.tuple no6) (.tuple fa6) (nx m), told fit] = two (MD n m 2 n (.tuple (no6.set m.toNat fit)) (.tuple (fa6.set m.toNat (.bool b))) .none) .none) :
    ∃ r4 r7 r8 r9 r10 r11, loop (gTupM 2 (gConsM (gSet 7) (gConsM (gSet 8) gNilM))) LB [.tuple [nx m, fit], .tuple [pu n, .bool true], .tuple [li n, .bool true], .tuple [ma, .bool true]] (ev L n m s4 s5 s6 s7 s8 s9 s10 s11 (sv (MD n m 1 n (.tuple no6) (.tuple fa6) .none))) =
      some (.nx (ev L n m r4 s5 s6 r7 r8 r9 r10 r11 (sv (MD n m 5 n (.tuple (no6.set m.toNat fit)) (.tuple (fa6.set m.toNat (.bool b))) .none)))) := by
  generalize hR : PyData.tuple (no6.set m.toNat fit) = R at *
  generalize hE : PyData.tuple (fa6.set m.toNat (.bool b)) = E at *
  obtain ⟨a1, a2, a3, w1⟩ := lb_ok (L := L) (s4 := s4) (s5 := s5) (s6 := s6) (s9 := s9) (s10 := s10) (s11 := s11) (w := "next") (x := false) (R := regs n) (q := 1) (gone_1 n m (.tuple no6) (.tuple fa6)) (by kernel_rfl) (ne9 (lay_nx m)) (by kernel_rfl) (by kernel_rfl) (bad_of (bad_1 n m (.tuple no6) (.tuple fa6) fit)) hf (by kernel_rfl) (by kernel_rfl) (by kernel_rfl) (by kernel_rfl) (by kernel_rfl) (ne9 (lay_regs n))
  obtain ⟨b1, b2, b3, w2⟩ := lb_ok (L := L) (s4 := sv .none) (s5 := s5) (s6 := s6) (s9 := a1) (s10 := a2) (s11 := a3) (w := "put") (x := true) (R := regs n) (q := 2) (gone_2 n m R E) (by kernel_rfl) (ne9 (lay_pu n)) (by kernel_rfl) (by kernel_rfl) (bad_of (bad_2 n m R E (.bool true))) (ans_2 n m R E) (by kernel_rfl) (by kernel_rfl) (by kernel_rfl) (by kernel_rfl) (by kernel_rfl) (ne9 (lay_regs n))
  obtain ⟨c1, c2, c3, w3⟩ := lb_ok (L := L) (s4 := sv .none) (s5 := s5) (s6 := s6) (s9 := b1) (s10 := b2) (s11 := b3) (w := "line") (x := true) (R := regs n) (q := 3) (gone_3 n m R E) (by kernel_rfl) (ne9 (lay_li n)) (by kernel_rfl) (by kernel_rfl) (bad_of (bad_3 n m R E (.bool true))) (ans_3 n m R E) (by kernel_rfl) (by kernel_rfl) (by kernel_rfl) (by kernel_rfl) (by kernel_rfl) (ne9 (lay_regs n))
  obtain ⟨d1, d2, d3, w4⟩ := lb_ok (L := L) (s4 := sv .none) (s5 := s5) (s6 := s6) (s9 := c1) (s10 := c2) (s11 := c3) (w := "mark") (x := true) (R := regs n) (q := 4) (gone_4 n m R E) (by kernel_rfl) (ne9 lay_ma) (by kernel_rfl) (by kernel_rfl) (bad_of (bad_4 n m R E (.bool true))) (ans_4 n m R E) (by kernel_rfl) (by kernel_rfl) (by kernel_rfl) (by kernel_rfl) (by kernel_rfl) (ne9 (lay_regs n))
  refine ⟨sv .none, sv ma, sv (.bool true), d1, d2, d3, ?_⟩
  rw [loop_cons (ρ1 := ev L n m s4 s5 s6 (sv (nx m)) (sv fit) s9 s10 s11 (sv (MD n m 1 n (.tuple no6) (.tuple fa6) .none))) rfl w1]
  rw [loop_cons (ρ1 := ev L n m (sv .none) s5 s6 (sv (pu n)) (sv (.bool true)) a1 a2 a3 (sv (MD n m 2 n R E .none))) rfl w2]
  rw [loop_cons (ρ1 := ev L n m (sv .none) s5 s6 (sv (li n)) (sv (.bool true)) b1 b2 b3 (sv (MD n m 3 n R E .none))) rfl w3]
  rw [loop_cons (ρ1 := ev L n m (sv .none) s5 s6 (sv ma) (sv (.bool true)) c1 c2 c3 (sv (MD n m 4 n R E .none))) rfl w4]
  rfl
def one (n : Int) : D := .tuple [.tuple [.str "set", .int 0, .int n]]
def endc : D := .tuple [.tuple [.str "end", .int 0]]
def Z6 (x : D) : List D := [x, .int 0, .int 0, .int 0, .int 0, .int 0, .int 0, .int 0]
def M13 (n : Int) : D := .tuple [one n, .int 1, .tuple (Z6 (.int n)), .tuple no6, .tuple fa6, .none]
def fp : D := .tuple [.str "fault", .str "place"]
theorem gone_one (n : Int) : m_gone [BEG (one n) (Z6 (.int 0)), .none] = two (M13 n) .none := by kernel_rfl
theorem gone_end (n : Int) : m_gone [M13 n, .none] = two (.tuple [one n, .int 1, .tuple (Z6 (.int n)), .tuple no6, .tuple fa6, fp]) fp := by kernel_rfl
theorem gone_n (n : Int) : m_gone [BEG endc (Z6 (.int n)), .none] = two (.tuple [endc, .int 0, .tuple (Z6 (.int n)), .tuple no6, .tuple fa6, en n]) (en n) := by kernel_rfl
theorem limX_beg {c p x : D} (h : m_begun [c, p] = some (.ok x)) : limX 2 m_begun [c, p] = some x := by
  show (m_begun [c, p]).bind okR = _
  rw [h]
  rfl
section
variable {L fit : D} {n m : Int} {b : Bool}
theorem walk (h0 : 0 ≤ n) (h1 : n ≤ 9999) (hm : m5 m) (hpn : m__law_pick [L, .int 0, .int 9999] = some (.int n)) {m0 : Int} (hpm : m__law_pick [L, .int 1, .int 5] = some (.int m0)) (em : m = 1 + m0)
    (h8 : ∀ ρ : En, ρ[0]? = some (sv L) → ρ[1]? = some (sv (.int n)) → (mIfE (mTest (mOp dEq (mCall (lim 3 m__law_pick) (mCons (mVar 0) (mCons (mC (.int 2)) (mCons (mC (.int 2)) mNil)))) (mC (.int 0)))) (mTup (mCons (mVar 1) (mCons (mC (.int 8)) mNil))) (mC .none)) ρ = some fit) (hlf : Lay 9 fit) (his : dIs fit .none = some (.bool b))
    (hf : m_gone [MD n m 1 n (.tuple no6) (.tuple fa6) (nx m), told fit] = two (MD n m 2 n (.tuple (no6.set m.toNat fit)) (.tuple (fa6.set m.toNat (.bool b))) .none) .none) :
    m_law [L] = some (.bool true) := by
  refine mDef_rt ?_
  unfold b_law
  have e1 : mCall (lim 3 m__law_pick) (mCons (mVar 0) (mCons (mC (.int 0)) (mCons (mC (.int 9999)) mNil))) (start0 13 [L]) = some (.int n) := hpn
  have e2 : mOp dAdd (mC (.int 1)) (mCall (lim 3 m__law_pick) (mCons (mVar 0) (mCons (mC (.int 1)) (mCons (mC (.int 5)) mNil)))) (start0 13 [L]) = some (.int m) := by
    have e : mCall (lim 3 m__law_pick) (mCons (mVar 0) (mCons (mC (.int 1)) (mCons (mC (.int 5)) mNil))) (start0 13 [L]) = some (.int m0) := hpm
    rw [op_of (show mC (.int 1) (start0 13 [L]) = some (.int 1) from rfl) e, em]
    rfl
  refine (seq_nx (ρ' := [sv L, sv (.int n), sv (.int m), none, none, none, none, none, none, none, none, none, none]) ((par_set e1 e2).trans rfl)).trans ?_
  refine (seq_nx (ρ' := ev L n m none none none none none none none none none) (by kernel_rfl)).trans ?_
  refine (seq_nx (ρ' := ev L n m none none none none none none none none (sv (MD n m 0 0 (.tuple no6) (.tuple fa6) .none))) ?_).trans ?_
  · exact asg_set (show mCall (limX 2 m_begun) (mCons (mVar 3) (mCons (mTup (mCons (mC (.int 5)) (mCons (mC (.int 6)) mNil))) mNil)) (ev L n m none none none none none none none none none) = some (MD n m 0 0 (.tuple no6) (.tuple fa6) .none) from limX_beg (begun_2 (cod_ok h0 h1 hm)))
  refine (seq_nx (ρ' := ev L n m none none none none none none none none (sv (MD n m 0 0 (.tuple no6) (.tuple fa6) .none))) ?_).trans ?_
  · have z : RHS3 (ev L n m none none none none none none none none (sv (MD n m 0 0 (.tuple no6) (.tuple fa6) .none))) = some (MD n m 0 0 (.tuple no6) (.tuple fa6) .none) := by kernel_rfl
    exact (if_f (test_of ((op_of (show mVar 12 (ev L n m none none none none none none none none (sv (MD n m 0 0 (.tuple no6) (.tuple fa6) .none))) = some (MD n m 0 0 (.tuple no6) (.tuple fa6) .none) from rfl) z).trans (ne9 (lay_M0 n m))))).trans rfl
  refine (seq_nx (ρ' := ev L n m none none none none none none none none (sv (MD n m 0 0 (.tuple no6) (.tuple fa6) .none))) ?_).trans ?_
  · have x : xCall 2 m_gone (mCons (mVar 12) (mCons (mTup (mCons (mC (.str ("told" : Str))) (mCons (mC (.bool true)) mNil))) mNil)) (ev L n m none none none none none none none none (sv (MD n m 0 0 (.tuple no6) (.tuple fa6) .none))) = some (.ex 0) := gone_told n m (.tuple no6) (.tuple fa6)
    exact (if_f (ne_of x)).trans rfl
  refine (seq_nx (ρ' := ev L n m (sv .none) none none none none none none none (sv (MD n m 1 n (.tuple no6) (.tuple fa6) .none))) ?_).trans ?_
  · exact (asg_any (show mCall (limD 2 [.none] m_gone) (mCons (mVar 12) mNil) (ev L n m none none none none none none none none (sv (MD n m 0 0 (.tuple no6) (.tuple fa6) .none))) = _ from limD_of (gone_0 n m))).trans rfl
  refine (seq_nx (ρ' := ev L n m (sv .none) none none none none none none none (sv (MD n m 1 n (.tuple no6) (.tuple fa6) .none))) ?_).trans ?_
  · have z : RHS6 (ev L n m (sv .none) none none none none none none none (sv (MD n m 1 n (.tuple no6) (.tuple fa6) .none))) = some (MD n m 1 n (.tuple no6) (.tuple fa6) .none) := by kernel_rfl
    have z1 : mTest (mOp dIsNot (mVar 4) (mC .none)) (ev L n m (sv .none) none none none none none none none (sv (MD n m 1 n (.tuple no6) (.tuple fa6) .none))) = some false := rfl
    have z2 := test_of ((op_of (show mVar 12 (ev L n m (sv .none) none none none none none none none (sv (MD n m 1 n (.tuple no6) (.tuple fa6) .none))) = some (MD n m 1 n (.tuple no6) (.tuple fa6) .none) from rfl) z).trans (ne9 (lay_M1 n m)))
    exact (if_f ((or_f z1).trans z2)).trans rfl
  refine (seq_nx (ρ' := ev L n m (sv .none) (sv (.list [nx m, pu n, li n, ma])) none none none none none none (sv (MD n m 1 n (.tuple no6) (.tuple fa6) .none))) (by kernel_rfl)).trans ?_
  refine (seq_nx (ρ' := ev L n m (sv .none) (sv (.list [nx m, pu n, li n, ma])) (sv (.list [fit, .bool true, .bool true, .bool true])) none none none none none (sv (MD n m 1 n (.tuple no6) (.tuple fa6) .none))) ?_).trans ?_
  · have z := h8 (ev L n m (sv .none) (sv (.list [nx m, pu n, li n, ma])) none none none none none none (sv (MD n m 1 n (.tuple no6) (.tuple fa6) .none))) rfl rfl
    have tr {ρ : En} : mC (.bool true) ρ = some (.bool true) := rfl
    exact (asg_set (list_of (lst_of (cons_of z (cons_of tr (cons_of tr (cons_of tr nil_of)))) (show 4 ≤ cap by decide)))).trans rfl
  obtain ⟨r4, r7, r8, r9, r10, r11, w⟩ := loop4 (L := L) (s4 := sv .none) (s5 := sv (.list [nx m, pu n, li n, ma])) (s6 := sv (.list [fit, .bool true, .bool true, .bool true])) (s7 := none) (s8 := none) (s9 := none) (s10 := none) (s11 := none) hf
  refine (seq_nx (ρ' := ev L n m r4 (sv (.list [nx m, pu n, li n, ma])) (sv (.list [fit, .bool true, .bool true, .bool true])) r7 r8 r9 r10 r11 (sv (MD n m 5 n (.tuple (no6.set m.toNat fit)) (.tuple (fa6.set m.toNat (.bool b))) .none))) ?_).trans ?_
  · exact w
  refine (seq_nx (ρ' := ev L n m r4 (sv (.list [nx m, pu n, li n, ma])) (sv (.list [fit, .bool true, .bool true, .bool true])) r7 r8 r9 r10 r11 (sv (MD n m 5 n (.tuple (no6.set m.toNat fit)) (.tuple (fa6.set m.toNat (.bool b))) .none))) ?_).trans ?_
  · have a1 : mTest (mOp dNe (mOp dIx (mOp dIx (mVar 12) (mC (.int 3))) (mVar 2)) (mOp dIx (mVar 6) (mC (.int 0)))) (ev L n m r4 (sv (.list [nx m, pu n, li n, ma])) (sv (.list [fit, .bool true, .bool true, .bool true])) r7 r8 r9 r10 r11 (sv (MD n m 5 n (.tuple (no6.set m.toNat fit)) (.tuple (fa6.set m.toNat (.bool b))) .none))) = some false :=
      test_of ((op_of (x := fit) (y := fit) ((op_of (x := .tuple (no6.set m.toNat fit)) (y := .int m) rfl rfl).trans (at_m hm fit)) rfl).trans (ne9 hlf))
    have a2 : mTest (mOp dNe (mOp dIx (mOp dIx (mVar 12) (mC (.int 4))) (mVar 2)) (mOp dIs (mOp dIx (mVar 6) (mC (.int 0))) (mC .none))) (ev L n m r4 (sv (.list [nx m, pu n, li n, ma])) (sv (.list [fit, .bool true, .bool true, .bool true])) r7 r8 r9 r10 r11 (sv (MD n m 5 n (.tuple (no6.set m.toNat fit)) (.tuple (fa6.set m.toNat (.bool b))) .none))) = some false :=
      test_of ((op_of (x := .bool b) (y := .bool b) ((op_of (x := .tuple (fa6.set m.toNat (.bool b))) (y := .int m) rfl rfl).trans (at_e hm (.bool b))) ((op_of (x := fit) (y := .none) rfl rfl).trans his)).trans (dNe_self lay_bool (Nat.zero_le _)))
    exact (if_f ((or_f a1).trans a2)).trans rfl
  generalize PyData.tuple (no6.set m.toNat fit) = R at *
  generalize PyData.tuple (fa6.set m.toNat (.bool b)) = E at *
  refine (seq_nx (ρ' := ev L n m (sv fz) (sv (.list [nx m, pu n, li n, ma])) (sv (.list [fit, .bool true, .bool true, .bool true])) r7 r8 r9 r10 r11 (sv (MD n m 5 n R E fz))) ?_).trans ?_
  · exact (asg_any (show mCall (limD 2 [.none] m_gone) (mCons (mVar 12) mNil) (ev L n m r4 (sv (.list [nx m, pu n, li n, ma])) (sv (.list [fit, .bool true, .bool true, .bool true])) r7 r8 r9 r10 r11 (sv (MD n m 5 n R E .none))) = _ from limD_of (gone_5 n m R E))).trans rfl
  refine (seq_nx (ρ' := ev L n m (sv fz) (sv (.list [nx m, pu n, li n, ma])) (sv (.list [fit, .bool true, .bool true, .bool true])) r7 r8 r9 r10 r11 (sv (MD n m 5 n R E fz))) ?_).trans ?_
  · have a1 : mTest (mOp dNe (mVar 4) (mTup (mCons (mC (.str ("fault" : Str))) (mCons (mC (.str ("zero" : Str))) mNil)))) (ev L n m (sv fz) (sv (.list [nx m, pu n, li n, ma])) (sv (.list [fit, .bool true, .bool true, .bool true])) r7 r8 r9 r10 r11 (sv (MD n m 5 n R E fz))) = some false := by kernel_rfl
    have a2 : mTest (mOp dNe (mOp dIx (mVar 12) (mC (.int 5))) (mVar 4)) (ev L n m (sv fz) (sv (.list [nx m, pu n, li n, ma])) (sv (.list [fit, .bool true, .bool true, .bool true])) r7 r8 r9 r10 r11 (sv (MD n m 5 n R E fz))) = some false := by kernel_rfl
    have x : xCallD 2 [.none] m_gone (mCons (mVar 12) mNil) (ev L n m (sv fz) (sv (.list [nx m, pu n, li n, ma])) (sv (.list [fit, .bool true, .bool true, .bool true])) r7 r8 r9 r10 r11 (sv (MD n m 5 n R E fz))) = some (.ex 0) := gone_z n m R E
    exact (if_f ((or_f a1).trans ((or_f a2).trans (ne_of x)))).trans rfl
  refine (seq_nx (ρ' := ev L n m (sv .none) (sv (.list [nx m, pu n, li n, ma])) (sv (.list [fit, .bool true, .bool true, .bool true])) r7 r8 r9 r10 r11 (sv (M13 n))) ?_).trans ?_
  · have c : limX 2 m_begun [one n, .tuple []] = some (BEG (one n) (Z6 (.int 0))) := limX_beg (begun_0 (one_set h0 h1))
    have z : X13 (ev L n m (sv fz) (sv (.list [nx m, pu n, li n, ma])) (sv (.list [fit, .bool true, .bool true, .bool true])) r7 r8 r9 r10 r11 (sv (MD n m 5 n R E fz))) = some (.tuple [M13 n, .none]) := by
      have c2 : mCall (limX 2 m_begun) (mCons (mTup (mCons (mTup (mCons (mC (.str ("set" : Str))) (mCons (mC (.int 0)) (mCons (mVar 1) mNil)))) mNil)) (mCons (mTup mNil) mNil)) (ev L n m (sv fz) (sv (.list [nx m, pu n, li n, ma])) (sv (.list [fit, .bool true, .bool true, .bool true])) r7 r8 r9 r10 r11 (sv (MD n m 5 n R E fz))) = some (BEG (one n) (Z6 (.int 0))) := c
      exact (call_of (cons_of c2 nil_of)).trans (limD_of (gone_one n))
    exact (asg_any z).trans rfl
  · refine ret_of ?_
    have q1 : mCall (limD 2 [.none] m_gone) (mCons (mVar 12) mNil) (ev L n m (sv .none) (sv (.list [nx m, pu n, li n, ma])) (sv (.list [fit, .bool true, .bool true, .bool true])) r7 r8 r9 r10 r11 (sv (M13 n))) = some (.tuple [.tuple [one n, .int 1, .tuple (Z6 (.int n)), .tuple no6, .tuple fa6, fp], fp]) := limD_of (gone_end n)
    have q2 : mCall (limX 2 m_begun) (mCons (mTup (mCons (mTup (mCons (mC (.str ("end" : Str))) (mCons (mC (.int 0)) mNil))) mNil)) (mCons (mTup (mCons (mVar 1) mNil)) mNil)) (ev L n m (sv .none) (sv (.list [nx m, pu n, li n, ma])) (sv (.list [fit, .bool true, .bool true, .bool true])) r7 r8 r9 r10 r11 (sv (M13 n))) = some (BEG endc (Z6 (.int n))) := limX_beg (begun_1 one_end)
    have q3 := (call_of (g := limD 2 [.none] m_gone) (cons_of q2 nil_of)).trans (limD_of (gone_n n))
    have f1 : mOp dIs (mVar 4) (mC .none) (ev L n m (sv .none) (sv (.list [nx m, pu n, li n, ma])) (sv (.list [fit, .bool true, .bool true, .bool true])) r7 r8 r9 r10 r11 (sv (M13 n))) = some (.bool true) := rfl
    have f2 : mOp dEq (mOp dIx (mCall (limD 2 [.none] m_gone) (mCons (mVar 12) mNil)) (mC (.int 1))) (mTup (mCons (mC (.str ("fault" : Str))) (mCons (mC (.str ("place" : Str))) mNil))) (ev L n m (sv .none) (sv (.list [nx m, pu n, li n, ma])) (sv (.list [fit, .bool true, .bool true, .bool true])) r7 r8 r9 r10 r11 (sv (M13 n))) = some (.bool true) :=
      (op_of (x := fp) (y := fp) ((op_of q1 (y := .int 1) rfl).trans rfl) rfl).trans (by kernel_rfl)
    have f3 := (op_of (g := dEq) (x := en n) (y := en n) ((op_of (g := dIx) q3 (y := .int 1) (n := mC (.int 1)) rfl).trans rfl) (show mTup (mCons (mC (.str ("end" : Str))) (mCons (mVar 1) mNil)) (ev L n m (sv .none) (sv (.list [nx m, pu n, li n, ma])) (sv (.list [fit, .bool true, .bool true, .bool true])) r7 r8 r9 r10 r11 (sv (M13 n))) = some (en n) from rfl)).trans (eq9 (lay_en n))
    rw [andV_t f1, andV_t f2]
    exact f3
end
theorem law_true (ns : List Int) (h63 : ns.length ≤ 63) : m_law [.list (ns.map .int)] = some (.bool true) := by
  obtain ⟨n, pn, n0, n1⟩ := pick_ok ns h63 0 9999 (by decide) (by decide) (by decide) (by decide)
  obtain ⟨m0, pm, a0, a1⟩ := pick_ok ns h63 1 5 (by decide) (by decide) (by decide) (by decide)
  obtain ⟨f, pf, f0, f1⟩ := pick_ok ns h63 2 2 (by decide) (by decide) (by decide) (by decide)
  generalize PyData.list (ns.map .int) = L at *
  rw [← k_pick] at pn pm pf
  have hm : m5 (1 + m0) := by
    unfold m5
    omega
  have v0 {ρ : En} (h : ρ[0]? = some (sv L)) : mVar 0 ρ = some L := var_of h
  have v1 {ρ : En} (h : ρ[1]? = some (sv (.int n))) : mVar 1 ρ = some (.int n) := var_of h
  have c8 {ρ : En} (h : ρ[0]? = some (sv L)) {x : Bool} (k : dEq (.int f) (.int 0) = some (.bool x)) : C8 ρ = some x := by
    refine test_of ((op_of (x := .int f) (y := .int 0) ?_ rfl).trans k)
    exact (call_of (cons_of (v0 h) (cons_of rfl (cons_of rfl nil_of)))).trans pf
  have hf : f = 0 ∨ f = 1 := by omega
  rcases hf with rfl | rfl
  · refine walk n0 (by omega) hm pn pm rfl (fit := rec8 n) (b := false) (fun ρ r0 r1 => ?_) (lay_rec n) rfl (ans_rec n0 (by omega) hm)
    exact (ifE_t (c8 r0 (by kernel_rfl))).trans (tup_of (cons_of (v1 r1) (cons_of rfl nil_of)) (show 2 ≤ cap by decide))
  · refine walk n0 (by omega) hm pn pm rfl (fit := .none) (b := true) (fun ρ r0 r1 => ?_) (lay_of (by kernel_rfl) (by kernel_rfl)) rfl (ans_none n (1 + m0) hm)
    exact (ifE_f (c8 r0 (by kernel_rfl))).trans rfl
end DD

set_option Elab.async false
set_option linter.all false
set_option maxRecDepth 100000
set_option maxHeartbeats 4000000
namespace DD
open PySem PySem.Spec PyProof.Rows L2
theorem all_mk {w : World} {K : PySem.W.Frag} {h : Heap} {mg : Str → Option Value} {fa : Addr} (X : K.In h) (G : h.Ns mainGlobals mg) (hfa : mg "law" = some (.ref fa)) (own : LamX.OwnTab K fa h)
    {f1 : Addr} {od1 an1 : Option Addr} {sl1 : Array (Option Value)} {oc1 kV1 dc1 pm1 cd1 ct1 : Value}
    (a1 : PySem.W.nsIn K mainGlobals "is_whole" = some (some (.ref f1))) (l1 : K.lookup f1 = some ⟨oc1, od1, .func (PySem.W.fnOf "is_whole" "is_whole" (defArgs s_is_whole) (defBody s_is_whole) (defScope s_is_whole) .none kV1 dc1 pm1 an1 cd1 ct1), sl1⟩) (c1 : PySem.W.codeIn K cd1 "is_whole" = true) (k1 : PySem.W.keepIn K (.ref f1) = true)
    {f2 : Addr} {od2 an2 : Option Addr} {sl2 : Array (Option Value)} {oc2 kV2 dc2 pm2 cd2 ct2 : Value}
    (a2 : PySem.W.nsIn K mainGlobals "is_word" = some (some (.ref f2))) (l2 : K.lookup f2 = some ⟨oc2, od2, .func (PySem.W.fnOf "is_word" "is_word" (defArgs s_is_word) (defBody s_is_word) (defScope s_is_word) .none kV2 dc2 pm2 an2 cd2 ct2), sl2⟩) (c2 : PySem.W.codeIn K cd2 "is_word" = true) (k2 : PySem.W.keepIn K (.ref f2) = true)
    {f3 : Addr} {od3 an3 : Option Addr} {sl3 : Array (Option Value)} {oc3 kV3 dc3 pm3 cd3 ct3 : Value}
    (a3 : PySem.W.nsIn K mainGlobals "is_record" = some (some (.ref f3))) (l3 : K.lookup f3 = some ⟨oc3, od3, .func (PySem.W.fnOf "is_record" "is_record" (defArgs s_is_record) (defBody s_is_record) (defScope s_is_record) .none kV3 dc3 pm3 an3 cd3 ct3), sl3⟩) (c3 : PySem.W.codeIn K cd3 "is_record" = true) (k3 : PySem.W.keepIn K (.ref f3) = true)
    {f4 : Addr} {od4 an4 : Option Addr} {sl4 : Array (Option Value)} {oc4 kV4 dc4 pm4 cd4 ct4 : Value}
    (a4 : PySem.W.nsIn K mainGlobals "is_code" = some (some (.ref f4))) (l4 : K.lookup f4 = some ⟨oc4, od4, .func (PySem.W.fnOf "is_code" "is_code" (defArgs s_is_code) (defBody s_is_code) (defScope s_is_code) .none kV4 dc4 pm4 an4 cd4 ct4), sl4⟩) (c4 : PySem.W.codeIn K cd4 "is_code" = true) (k4 : PySem.W.keepIn K (.ref f4) = true)
    {f5 : Addr} {od5 an5 : Option Addr} {sl5 : Array (Option Value)} {oc5 kV5 dc5 pm5 cd5 ct5 : Value}
    (a5 : PySem.W.nsIn K mainGlobals "demand_code" = some (some (.ref f5))) (l5 : K.lookup f5 = some ⟨oc5, od5, .func (PySem.W.fnOf "demand_code" "demand_code" (defArgs s_demand_code) (defBody s_demand_code) (defScope s_demand_code) .none kV5 dc5 pm5 an5 cd5 ct5), sl5⟩) (c5 : PySem.W.codeIn K cd5 "demand_code" = true) (k5 : PySem.W.keepIn K (.ref f5) = true)
    {f6 : Addr} {od6 an6 : Option Addr} {sl6 : Array (Option Value)} {oc6 kV6 dc6 pm6 cd6 ct6 : Value}
    (a6 : PySem.W.nsIn K mainGlobals "_is_step" = some (some (.ref f6))) (l6 : K.lookup f6 = some ⟨oc6, od6, .func (PySem.W.fnOf "_is_step" "_is_step" (defArgs s__is_step) (defBody s__is_step) (defScope s__is_step) .none kV6 dc6 pm6 an6 cd6 ct6), sl6⟩) (c6 : PySem.W.codeIn K cd6 "_is_step" = true) (k6 : PySem.W.keepIn K (.ref f6) = true)
    {f7 : Addr} {od7 an7 : Option Addr} {sl7 : Array (Option Value)} {oc7 kV7 dc7 pm7 cd7 ct7 : Value}
    (a7 : PySem.W.nsIn K mainGlobals "_is_part" = some (some (.ref f7))) (l7 : K.lookup f7 = some ⟨oc7, od7, .func (PySem.W.fnOf "_is_part" "_is_part" (defArgs s__is_part) (defBody s__is_part) (defScope s__is_part) .none kV7 dc7 pm7 an7 cd7 ct7), sl7⟩) (c7 : PySem.W.codeIn K cd7 "_is_part" = true) (k7 : PySem.W.keepIn K (.ref f7) = true)
    {f8 : Addr} {od8 an8 : Option Addr} {sl8 : Array (Option Value)} {oc8 kV8 dc8 pm8 cd8 ct8 : Value}
    (a8 : PySem.W.nsIn K mainGlobals "_is_row" = some (some (.ref f8))) (l8 : K.lookup f8 = some ⟨oc8, od8, .func (PySem.W.fnOf "_is_row" "_is_row" (defArgs s__is_row) (defBody s__is_row) (defScope s__is_row) .none kV8 dc8 pm8 an8 cd8 ct8), sl8⟩) (c8 : PySem.W.codeIn K cd8 "_is_row" = true) (k8 : PySem.W.keepIn K (.ref f8) = true)
    {f9 : Addr} {od9 an9 : Option Addr} {sl9 : Array (Option Value)} {oc9 kV9 dc9 pm9 cd9 ct9 : Value}
    (a9 : PySem.W.nsIn K mainGlobals "begun" = some (some (.ref f9))) (l9 : K.lookup f9 = some ⟨oc9, od9, .func (PySem.W.fnOf "begun" "begun" (defArgs s_begun) (defBody s_begun) (defScope s_begun) .none kV9 dc9 pm9 an9 cd9 ct9), sl9⟩) (c9 : PySem.W.codeIn K cd9 "begun" = true) (k9 : PySem.W.keepIn K (.ref f9) = true)
    {f10 : Addr} {od10 an10 : Option Addr} {sl10 : Array (Option Value)} {oc10 kV10 dc10 pm10 cd10 ct10 : Value} {dt10 : Addr} {dl10 : Value} {dx10 : Option Addr} {di10 : Array Value} {dn10 : Nat} {ds10 : Array (Option Value)}
    (a10 : PySem.W.nsIn K mainGlobals "gone" = some (some (.ref f10))) (l10 : K.lookup f10 = some ⟨oc10, od10, .func (PySem.W.fnOf "gone" "gone" (defArgs s_gone) (defBody s_gone) (defScope s_gone) (.ref dt10) kV10 dc10 pm10 an10 cd10 ct10), sl10⟩) (c10 : PySem.W.codeIn K cd10 "gone" = true) (k10 : PySem.W.keepIn K (.ref f10) = true)
    (dk10 : K.lookup dt10 = some ⟨dl10, dx10, .seq di10 dn10, ds10⟩) (dv10 : Vals [V.non] di10.toList)
    {f11 : Addr} {od11 an11 : Option Addr} {sl11 : Array (Option Value)} {oc11 kV11 dc11 pm11 cd11 ct11 : Value}
    (a11 : PySem.W.nsIn K mainGlobals "_answered" = some (some (.ref f11))) (l11 : K.lookup f11 = some ⟨oc11, od11, .func (PySem.W.fnOf "_answered" "_answered" (defArgs s__answered) (defBody s__answered) (defScope s__answered) .none kV11 dc11 pm11 an11 cd11 ct11), sl11⟩) (c11 : PySem.W.codeIn K cd11 "_answered" = true) (k11 : PySem.W.keepIn K (.ref f11) = true)
    {f12 : Addr} {od12 an12 : Option Addr} {sl12 : Array (Option Value)} {oc12 kV12 dc12 pm12 cd12 ct12 : Value}
    (a12 : PySem.W.nsIn K mainGlobals "_fits" = some (some (.ref f12))) (l12 : K.lookup f12 = some ⟨oc12, od12, .func (PySem.W.fnOf "_fits" "_fits" (defArgs s__fits) (defBody s__fits) (defScope s__fits) .none kV12 dc12 pm12 an12 cd12 ct12), sl12⟩) (c12 : PySem.W.codeIn K cd12 "_fits" = true) (k12 : PySem.W.keepIn K (.ref f12) = true)
    {f13 : Addr} {od13 an13 : Option Addr} {sl13 : Array (Option Value)} {oc13 kV13 dc13 pm13 cd13 ct13 : Value}
    (a13 : PySem.W.nsIn K mainGlobals "_done" = some (some (.ref f13))) (l13 : K.lookup f13 = some ⟨oc13, od13, .func (PySem.W.fnOf "_done" "_done" (defArgs s__done) (defBody s__done) (defScope s__done) .none kV13 dc13 pm13 an13 cd13 ct13), sl13⟩) (c13 : PySem.W.codeIn K cd13 "_done" = true) (k13 : PySem.W.keepIn K (.ref f13) = true)
    {f14 : Addr} {od14 an14 : Option Addr} {sl14 : Array (Option Value)} {oc14 kV14 dc14 pm14 cd14 ct14 : Value}
    (a14 : PySem.W.nsIn K mainGlobals "_worth" = some (some (.ref f14))) (l14 : K.lookup f14 = some ⟨oc14, od14, .func (PySem.W.fnOf "_worth" "_worth" (defArgs s__worth) (defBody s__worth) (defScope s__worth) .none kV14 dc14 pm14 an14 cd14 ct14), sl14⟩) (c14 : PySem.W.codeIn K cd14 "_worth" = true) (k14 : PySem.W.keepIn K (.ref f14) = true)
    {f15 : Addr} {od15 an15 : Option Addr} {sl15 : Array (Option Value)} {oc15 kV15 dc15 pm15 cd15 ct15 : Value}
    (a15 : PySem.W.nsIn K mainGlobals "_field_of" = some (some (.ref f15))) (l15 : K.lookup f15 = some ⟨oc15, od15, .func (PySem.W.fnOf "_field_of" "_field_of" (defArgs s__field_of) (defBody s__field_of) (defScope s__field_of) .none kV15 dc15 pm15 an15 cd15 ct15), sl15⟩) (c15 : PySem.W.codeIn K cd15 "_field_of" = true) (k15 : PySem.W.keepIn K (.ref f15) = true)
    {f16 : Addr} {od16 an16 : Option Addr} {sl16 : Array (Option Value)} {oc16 kV16 dc16 pm16 cd16 ct16 : Value}
    (a16 : PySem.W.nsIn K mainGlobals "_next_place" = some (some (.ref f16))) (l16 : K.lookup f16 = some ⟨oc16, od16, .func (PySem.W.fnOf "_next_place" "_next_place" (defArgs s__next_place) (defBody s__next_place) (defScope s__next_place) .none kV16 dc16 pm16 an16 cd16 ct16), sl16⟩) (c16 : PySem.W.codeIn K cd16 "_next_place" = true) (k16 : PySem.W.keepIn K (.ref f16) = true)
    {f17 : Addr} {od17 an17 : Option Addr} {sl17 : Array (Option Value)} {oc17 kV17 dc17 pm17 cd17 ct17 : Value}
    (a17 : PySem.W.nsIn K mainGlobals "_question" = some (some (.ref f17))) (l17 : K.lookup f17 = some ⟨oc17, od17, .func (PySem.W.fnOf "_question" "_question" (defArgs s__question) (defBody s__question) (defScope s__question) .none kV17 dc17 pm17 an17 cd17 ct17), sl17⟩) (c17 : PySem.W.codeIn K cd17 "_question" = true) (k17 : PySem.W.keepIn K (.ref f17) = true)
    {f18 : Addr} {od18 an18 : Option Addr} {sl18 : Array (Option Value)} {oc18 kV18 dc18 pm18 cd18 ct18 : Value}
    (a18 : PySem.W.nsIn K mainGlobals "_row_of" = some (some (.ref f18))) (l18 : K.lookup f18 = some ⟨oc18, od18, .func (PySem.W.fnOf "_row_of" "_row_of" (defArgs s__row_of) (defBody s__row_of) (defScope s__row_of) .none kV18 dc18 pm18 an18 cd18 ct18), sl18⟩) (c18 : PySem.W.codeIn K cd18 "_row_of" = true) (k18 : PySem.W.keepIn K (.ref f18) = true)
    {f19 : Addr} {od19 an19 : Option Addr} {sl19 : Array (Option Value)} {oc19 kV19 dc19 pm19 cd19 ct19 : Value}
    (a19 : PySem.W.nsIn K mainGlobals "_asking" = some (some (.ref f19))) (l19 : K.lookup f19 = some ⟨oc19, od19, .func (PySem.W.fnOf "_asking" "_asking" (defArgs s__asking) (defBody s__asking) (defScope s__asking) .none kV19 dc19 pm19 an19 cd19 ct19), sl19⟩) (c19 : PySem.W.codeIn K cd19 "_asking" = true) (k19 : PySem.W.keepIn K (.ref f19) = true)
    {f20 : Addr} {od20 an20 : Option Addr} {sl20 : Array (Option Value)} {oc20 kV20 dc20 pm20 cd20 ct20 : Value}
    (a20 : PySem.W.nsIn K mainGlobals "_further" = some (some (.ref f20))) (l20 : K.lookup f20 = some ⟨oc20, od20, .func (PySem.W.fnOf "_further" "_further" (defArgs s__further) (defBody s__further) (defScope s__further) .none kV20 dc20 pm20 an20 cd20 ct20), sl20⟩) (c20 : PySem.W.codeIn K cd20 "_further" = true) (k20 : PySem.W.keepIn K (.ref f20) = true)
    {f21 : Addr} {od21 an21 : Option Addr} {sl21 : Array (Option Value)} {oc21 kV21 dc21 pm21 cd21 ct21 : Value}
    (a21 : PySem.W.nsIn K mainGlobals "_with_record" = some (some (.ref f21))) (l21 : K.lookup f21 = some ⟨oc21, od21, .func (PySem.W.fnOf "_with_record" "_with_record" (defArgs s__with_record) (defBody s__with_record) (defScope s__with_record) .none kV21 dc21 pm21 an21 cd21 ct21), sl21⟩) (c21 : PySem.W.codeIn K cd21 "_with_record" = true) (k21 : PySem.W.keepIn K (.ref f21) = true)
    {f22 : Addr} {od22 an22 : Option Addr} {sl22 : Array (Option Value)} {oc22 kV22 dc22 pm22 cd22 ct22 : Value}
    (a22 : PySem.W.nsIn K mainGlobals "_with_register" = some (some (.ref f22))) (l22 : K.lookup f22 = some ⟨oc22, od22, .func (PySem.W.fnOf "_with_register" "_with_register" (defArgs s__with_register) (defBody s__with_register) (defScope s__with_register) .none kV22 dc22 pm22 an22 cd22 ct22), sl22⟩) (c22 : PySem.W.codeIn K cd22 "_with_register" = true) (k22 : PySem.W.keepIn K (.ref f22) = true)
    {f23 : Addr} {od23 an23 : Option Addr} {sl23 : Array (Option Value)} {oc23 kV23 dc23 pm23 cd23 ct23 : Value}
    (a23 : PySem.W.nsIn K mainGlobals "_with_part" = some (some (.ref f23))) (l23 : K.lookup f23 = some ⟨oc23, od23, .func (PySem.W.fnOf "_with_part" "_with_part" (defArgs s__with_part) (defBody s__with_part) (defScope s__with_part) .none kV23 dc23 pm23 an23 cd23 ct23), sl23⟩) (c23 : PySem.W.codeIn K cd23 "_with_part" = true) (k23 : PySem.W.keepIn K (.ref f23) = true)
    {f24 : Addr} {od24 an24 : Option Addr} {sl24 : Array (Option Value)} {oc24 kV24 dc24 pm24 cd24 ct24 : Value}
    (a24 : PySem.W.nsIn K mainGlobals "_sum_of" = some (some (.ref f24))) (l24 : K.lookup f24 = some ⟨oc24, od24, .func (PySem.W.fnOf "_sum_of" "_sum_of" (defArgs s__sum_of) (defBody s__sum_of) (defScope s__sum_of) .none kV24 dc24 pm24 an24 cd24 ct24), sl24⟩) (c24 : PySem.W.codeIn K cd24 "_sum_of" = true) (k24 : PySem.W.keepIn K (.ref f24) = true)
    {f25 : Addr} {od25 an25 : Option Addr} {sl25 : Array (Option Value)} {oc25 kV25 dc25 pm25 cd25 ct25 : Value}
    (a25 : PySem.W.nsIn K mainGlobals "_rest_of" = some (some (.ref f25))) (l25 : K.lookup f25 = some ⟨oc25, od25, .func (PySem.W.fnOf "_rest_of" "_rest_of" (defArgs s__rest_of) (defBody s__rest_of) (defScope s__rest_of) .none kV25 dc25 pm25 an25 cd25 ct25), sl25⟩) (c25 : PySem.W.codeIn K cd25 "_rest_of" = true) (k25 : PySem.W.keepIn K (.ref f25) = true)
    {f26 : Addr} {od26 an26 : Option Addr} {sl26 : Array (Option Value)} {oc26 kV26 dc26 pm26 cd26 ct26 : Value}
    (a26 : PySem.W.nsIn K mainGlobals "_product_of" = some (some (.ref f26))) (l26 : K.lookup f26 = some ⟨oc26, od26, .func (PySem.W.fnOf "_product_of" "_product_of" (defArgs s__product_of) (defBody s__product_of) (defScope s__product_of) .none kV26 dc26 pm26 an26 cd26 ct26), sl26⟩) (c26 : PySem.W.codeIn K cd26 "_product_of" = true) (k26 : PySem.W.keepIn K (.ref f26) = true)
    {f27 : Addr} {od27 an27 : Option Addr} {sl27 : Array (Option Value)} {oc27 kV27 dc27 pm27 cd27 ct27 : Value}
    (a27 : PySem.W.nsIn K mainGlobals "_quotient_of" = some (some (.ref f27))) (l27 : K.lookup f27 = some ⟨oc27, od27, .func (PySem.W.fnOf "_quotient_of" "_quotient_of" (defArgs s__quotient_of) (defBody s__quotient_of) (defScope s__quotient_of) .none kV27 dc27 pm27 an27 cd27 ct27), sl27⟩) (c27 : PySem.W.codeIn K cd27 "_quotient_of" = true) (k27 : PySem.W.keepIn K (.ref f27) = true)
    {f28 : Addr} {od28 an28 : Option Addr} {sl28 : Array (Option Value)} {oc28 kV28 dc28 pm28 cd28 ct28 : Value}
    (a28 : PySem.W.nsIn K mainGlobals "_remainder_of" = some (some (.ref f28))) (l28 : K.lookup f28 = some ⟨oc28, od28, .func (PySem.W.fnOf "_remainder_of" "_remainder_of" (defArgs s__remainder_of) (defBody s__remainder_of) (defScope s__remainder_of) .none kV28 dc28 pm28 an28 cd28 ct28), sl28⟩) (c28 : PySem.W.codeIn K cd28 "_remainder_of" = true) (k28 : PySem.W.keepIn K (.ref f28) = true)
    {f29 : Addr} {od29 an29 : Option Addr} {sl29 : Array (Option Value)} {oc29 kV29 dc29 pm29 cd29 ct29 : Value}
    (a29 : PySem.W.nsIn K mainGlobals "_is_less" = some (some (.ref f29))) (l29 : K.lookup f29 = some ⟨oc29, od29, .func (PySem.W.fnOf "_is_less" "_is_less" (defArgs s__is_less) (defBody s__is_less) (defScope s__is_less) .none kV29 dc29 pm29 an29 cd29 ct29), sl29⟩) (c29 : PySem.W.codeIn K cd29 "_is_less" = true) (k29 : PySem.W.keepIn K (.ref f29) = true)
    {f30 : Addr} {od30 an30 : Option Addr} {sl30 : Array (Option Value)} {oc30 kV30 dc30 pm30 cd30 ct30 : Value}
    (a30 : PySem.W.nsIn K mainGlobals "_is_same" = some (some (.ref f30))) (l30 : K.lookup f30 = some ⟨oc30, od30, .func (PySem.W.fnOf "_is_same" "_is_same" (defArgs s__is_same) (defBody s__is_same) (defScope s__is_same) .none kV30 dc30 pm30 an30 cd30 ct30), sl30⟩) (c30 : PySem.W.codeIn K cd30 "_is_same" = true) (k30 : PySem.W.keepIn K (.ref f30) = true)
    {f31 : Addr} {od31 an31 : Option Addr} {sl31 : Array (Option Value)} {oc31 kV31 dc31 pm31 cd31 ct31 : Value}
    (a31 : PySem.W.nsIn K mainGlobals "_law_pick" = some (some (.ref f31))) (l31 : K.lookup f31 = some ⟨oc31, od31, .func (PySem.W.fnOf "_law_pick" "_law_pick" (defArgs s__law_pick) (defBody s__law_pick) (defScope s__law_pick) .none kV31 dc31 pm31 an31 cd31 ct31), sl31⟩) (c31 : PySem.W.codeIn K cd31 "_law_pick" = true) (k31 : PySem.W.keepIn K (.ref f31) = true)
    {f32 : Addr} {od32 an32 : Option Addr} {sl32 : Array (Option Value)} {oc32 kV32 dc32 pm32 cd32 ct32 : Value}
    (a32 : PySem.W.nsIn K mainGlobals "_law_class" = some (some (.ref f32))) (l32 : K.lookup f32 = some ⟨oc32, od32, .func (PySem.W.fnOf "_law_class" "_law_class" (defArgs s__law_class) (defBody s__law_class) (defScope s__law_class) .none kV32 dc32 pm32 an32 cd32 ct32), sl32⟩) (c32 : PySem.W.codeIn K cd32 "_law_class" = true) (k32 : PySem.W.keepIn K (.ref f32) = true)
    {f33 : Addr} {od33 an33 : Option Addr} {sl33 : Array (Option Value)} {oc33 kV33 dc33 pm33 cd33 ct33 : Value}
    (a33 : PySem.W.nsIn K mainGlobals "_law_told" = some (some (.ref f33))) (l33 : K.lookup f33 = some ⟨oc33, od33, .func (PySem.W.fnOf "_law_told" "_law_told" (defArgs s__law_told) (defBody s__law_told) (defScope s__law_told) .none kV33 dc33 pm33 an33 cd33 ct33), sl33⟩) (c33 : PySem.W.codeIn K cd33 "_law_told" = true) (k33 : PySem.W.keepIn K (.ref f33) = true)
    {co34 pt34 : Addr} {cx34 : Option Addr} {cv34 : Array Value} {cs34 : Array (Option Value)}
    {f34 : Addr} {od34 an34 : Option Addr} {sl34 : Array (Option Value)} {oc34 kV34 dc34 pm34 ct34 : Value}
    (a34 : PySem.W.nsIn K mainGlobals "law" = some (some (.ref f34))) (l34 : K.lookup f34 = some ⟨oc34, od34, .func (PySem.W.fnOf "law" "law" (defArgs s_law) (defBody s_law) (defScope s_law) .none kV34 dc34 pm34 an34 (.ref co34) ct34), sl34⟩) (c34 : PySem.W.codeIn K (.ref co34) "law" = true) (k34 : PySem.W.keepIn K (.ref f34) = true)
    (kl34 : K.lookup co34 = some ⟨.type "code", cx34, .fields cv34, cs34⟩) (kp34 : cv34[11]? = some (.ref pt34)) (ka34 : ∃ x t, cv34.getD 18 .none = .str x t) (kb34 : ∃ x t, cv34.getD 7 .none = .int x t) (kc34 : ∃ x, cv34.getD 9 .none = .bool x) (kd34 : ∃ x t, cv34.getD 10 .none = .int x t) (ke34 : co34 ≠ pt34) (kn34 : K.lookup pt34 = none)
    {t35 : Tok} (c_GREATEST_WORD : PySem.W.nsIn K mainGlobals "GREATEST_WORD" = some (some (.int (9999) t35)))
    {t36 : Tok} (c_MOST_WORDS : PySem.W.nsIn K mainGlobals "MOST_WORDS" = some (some (.int (8) t36)))
    {t37 : Tok} (c_MOST_STEPS : PySem.W.nsIn K mainGlobals "MOST_STEPS" = some (some (.int (30) t37)))
    {f38 : Addr} {e38 : Array DictEntry} {n38 : Nat} (c_PARTS : PySem.W.nsIn K mainGlobals "PARTS" = some (some (.ref f38))) (w_PARTS : K.lookup f38 = some ⟨.type "dict", none, .dict e38 n38, #[]⟩) (y_PARTS : PySem.W.KeysLit w.params e38.toList) (z_PARTS : (f38 == sysModules) = false)
    {p38_0 : Addr} {p38_1 : Addr} {p38_2 : Addr} {p38_3 : Addr} {p38_4 : Addr} {p38_5 : Addr} {p38_6 : Addr} {p38_7 : Addr} {p38_8 : Addr} {p38_9 : Addr} {p38_10 : Addr} {p38_11 : Addr} {p38_12 : Addr} {p38_13 : Addr} {p38_14 : Addr} {p38_15 : Addr} {p38_16 : Addr} {p38_17 : Addr}
    (v_PARTS : e38.toList.map (fun e => (keyS e, e.val)) = [(some ("add" : Str), Value.ref p38_0), (some ("copy" : Str), Value.ref p38_1), (some ("div" : Str), Value.ref p38_2), (some ("end" : Str), Value.ref p38_3), (some ("field" : Str), Value.ref p38_4), (some ("go" : Str), Value.ref p38_5), (some ("if" : Str), Value.ref p38_6), (some ("less" : Str), Value.ref p38_7), (some ("line" : Str), Value.ref p38_8), (some ("mark" : Str), Value.ref p38_9), (some ("mod" : Str), Value.ref p38_10), (some ("mul" : Str), Value.ref p38_11), (some ("over" : Str), Value.ref p38_12), (some ("put" : Str), Value.ref p38_13), (some ("same" : Str), Value.ref p38_14), (some ("set" : Str), Value.ref p38_15), (some ("sub" : Str), Value.ref p38_16), (some ("take" : Str), Value.ref p38_17)])
    {o38_0 : Option Addr} {i38_0 : Array Value} {m38_0 : Nat} {s38_0 : Array (Option Value)} (t38_0 : K.lookup p38_0 = some ⟨.type "tuple", o38_0, .seq i38_0 m38_0, s38_0⟩) (z38_0 : i38_0.size ≤ 1000) (u38_0 : deVs (deV K 2) i38_0.toList = some [(.str ("r" : Str)), (.str ("r" : Str)), (.str ("r" : Str))])
    {o38_1 : Option Addr} {i38_1 : Array Value} {m38_1 : Nat} {s38_1 : Array (Option Value)} (t38_1 : K.lookup p38_1 = some ⟨.type "tuple", o38_1, .seq i38_1 m38_1, s38_1⟩) (z38_1 : i38_1.size ≤ 1000) (u38_1 : deVs (deV K 2) i38_1.toList = some [(.str ("r" : Str)), (.str ("r" : Str))])
    {o38_2 : Option Addr} {i38_2 : Array Value} {m38_2 : Nat} {s38_2 : Array (Option Value)} (t38_2 : K.lookup p38_2 = some ⟨.type "tuple", o38_2, .seq i38_2 m38_2, s38_2⟩) (z38_2 : i38_2.size ≤ 1000) (u38_2 : deVs (deV K 2) i38_2.toList = some [(.str ("r" : Str)), (.str ("r" : Str)), (.str ("r" : Str))])
    {o38_3 : Option Addr} {i38_3 : Array Value} {m38_3 : Nat} {s38_3 : Array (Option Value)} (t38_3 : K.lookup p38_3 = some ⟨.type "tuple", o38_3, .seq i38_3 m38_3, s38_3⟩) (z38_3 : i38_3.size ≤ 1000) (u38_3 : deVs (deV K 2) i38_3.toList = some [(.str ("r" : Str))])
    {o38_4 : Option Addr} {i38_4 : Array Value} {m38_4 : Nat} {s38_4 : Array (Option Value)} (t38_4 : K.lookup p38_4 = some ⟨.type "tuple", o38_4, .seq i38_4 m38_4, s38_4⟩) (z38_4 : i38_4.size ≤ 1000) (u38_4 : deVs (deV K 2) i38_4.toList = some [(.str ("r" : Str)), (.str ("f" : Str)), (.str ("k" : Str))])
    {o38_5 : Option Addr} {i38_5 : Array Value} {m38_5 : Nat} {s38_5 : Array (Option Value)} (t38_5 : K.lookup p38_5 = some ⟨.type "tuple", o38_5, .seq i38_5 m38_5, s38_5⟩) (z38_5 : i38_5.size ≤ 1000) (u38_5 : deVs (deV K 2) i38_5.toList = some [(.str ("p" : Str))])
    {o38_6 : Option Addr} {i38_6 : Array Value} {m38_6 : Nat} {s38_6 : Array (Option Value)} (t38_6 : K.lookup p38_6 = some ⟨.type "tuple", o38_6, .seq i38_6 m38_6, s38_6⟩) (z38_6 : i38_6.size ≤ 1000) (u38_6 : deVs (deV K 2) i38_6.toList = some [(.str ("r" : Str)), (.str ("p" : Str))])
    {o38_7 : Option Addr} {i38_7 : Array Value} {m38_7 : Nat} {s38_7 : Array (Option Value)} (t38_7 : K.lookup p38_7 = some ⟨.type "tuple", o38_7, .seq i38_7 m38_7, s38_7⟩) (z38_7 : i38_7.size ≤ 1000) (u38_7 : deVs (deV K 2) i38_7.toList = some [(.str ("r" : Str)), (.str ("r" : Str)), (.str ("r" : Str))])
    {o38_8 : Option Addr} {i38_8 : Array Value} {m38_8 : Nat} {s38_8 : Array (Option Value)} (t38_8 : K.lookup p38_8 = some ⟨.type "tuple", o38_8, .seq i38_8 m38_8, s38_8⟩) (z38_8 : i38_8.size ≤ 1000) (u38_8 : deVs (deV K 2) i38_8.toList = some [(.str ("row" : Str))])
    {o38_9 : Option Addr} {i38_9 : Array Value} {m38_9 : Nat} {s38_9 : Array (Option Value)} (t38_9 : K.lookup p38_9 = some ⟨.type "tuple", o38_9, .seq i38_9 m38_9, s38_9⟩) (z38_9 : i38_9.size ≤ 1000) (u38_9 : deVs (deV K 2) i38_9.toList = some [])
    {o38_10 : Option Addr} {i38_10 : Array Value} {m38_10 : Nat} {s38_10 : Array (Option Value)} (t38_10 : K.lookup p38_10 = some ⟨.type "tuple", o38_10, .seq i38_10 m38_10, s38_10⟩) (z38_10 : i38_10.size ≤ 1000) (u38_10 : deVs (deV K 2) i38_10.toList = some [(.str ("r" : Str)), (.str ("r" : Str)), (.str ("r" : Str))])
    {o38_11 : Option Addr} {i38_11 : Array Value} {m38_11 : Nat} {s38_11 : Array (Option Value)} (t38_11 : K.lookup p38_11 = some ⟨.type "tuple", o38_11, .seq i38_11 m38_11, s38_11⟩) (z38_11 : i38_11.size ≤ 1000) (u38_11 : deVs (deV K 2) i38_11.toList = some [(.str ("r" : Str)), (.str ("r" : Str)), (.str ("r" : Str))])
    {o38_12 : Option Addr} {i38_12 : Array Value} {m38_12 : Nat} {s38_12 : Array (Option Value)} (t38_12 : K.lookup p38_12 = some ⟨.type "tuple", o38_12, .seq i38_12 m38_12, s38_12⟩) (z38_12 : i38_12.size ≤ 1000) (u38_12 : deVs (deV K 2) i38_12.toList = some [(.str ("f" : Str)), (.str ("p" : Str))])
    {o38_13 : Option Addr} {i38_13 : Array Value} {m38_13 : Nat} {s38_13 : Array (Option Value)} (t38_13 : K.lookup p38_13 = some ⟨.type "tuple", o38_13, .seq i38_13 m38_13, s38_13⟩) (z38_13 : i38_13.size ≤ 1000) (u38_13 : deVs (deV K 2) i38_13.toList = some [(.str ("f" : Str)), (.str ("row" : Str))])
    {o38_14 : Option Addr} {i38_14 : Array Value} {m38_14 : Nat} {s38_14 : Array (Option Value)} (t38_14 : K.lookup p38_14 = some ⟨.type "tuple", o38_14, .seq i38_14 m38_14, s38_14⟩) (z38_14 : i38_14.size ≤ 1000) (u38_14 : deVs (deV K 2) i38_14.toList = some [(.str ("r" : Str)), (.str ("r" : Str)), (.str ("r" : Str))])
    {o38_15 : Option Addr} {i38_15 : Array Value} {m38_15 : Nat} {s38_15 : Array (Option Value)} (t38_15 : K.lookup p38_15 = some ⟨.type "tuple", o38_15, .seq i38_15 m38_15, s38_15⟩) (z38_15 : i38_15.size ≤ 1000) (u38_15 : deVs (deV K 2) i38_15.toList = some [(.str ("r" : Str)), (.str ("n" : Str))])
    {o38_16 : Option Addr} {i38_16 : Array Value} {m38_16 : Nat} {s38_16 : Array (Option Value)} (t38_16 : K.lookup p38_16 = some ⟨.type "tuple", o38_16, .seq i38_16 m38_16, s38_16⟩) (z38_16 : i38_16.size ≤ 1000) (u38_16 : deVs (deV K 2) i38_16.toList = some [(.str ("r" : Str)), (.str ("r" : Str)), (.str ("r" : Str))])
    {o38_17 : Option Addr} {i38_17 : Array Value} {m38_17 : Nat} {s38_17 : Array (Option Value)} (t38_17 : K.lookup p38_17 = some ⟨.type "tuple", o38_17, .seq i38_17 m38_17, s38_17⟩) (z38_17 : i38_17.size ≤ 1000) (u38_17 : deVs (deV K 2) i38_17.toList = some [(.str ("f" : Str))])
    {f39 : Addr} {e39 : Array DictEntry} {n39 : Nat} (c_GREATEST : PySem.W.nsIn K mainGlobals "GREATEST" = some (some (.ref f39))) (w_GREATEST : K.lookup f39 = some ⟨.type "dict", none, .dict e39 n39, #[]⟩) (y_GREATEST : PySem.W.KeysLit w.params e39.toList) (z_GREATEST : (f39 == sysModules) = false)
    {p39_0 : Tok}
    {p39_1 : Tok}
    {p39_2 : Tok}
    
    (v_GREATEST : e39.toList.map (fun e => (keyS e, e.val)) = [(some ("r" : Str), Value.int 7 p39_0), (some ("f" : Str), Value.int 5 p39_1), (some ("k" : Str), Value.int 7 p39_2)])
    {t40 : Tok} (c_MOST_ROW : PySem.W.nsIn K mainGlobals "MOST_ROW" = some (some (.int (6) t40)))
    {t41 : Tok} (c_MANY_REGISTERS : PySem.W.nsIn K mainGlobals "MANY_REGISTERS" = some (some (.int (8) t41)))
    {t42 : Tok} (c_MANY_CARDS : PySem.W.nsIn K mainGlobals "MANY_CARDS" = some (some (.int (6) t42)))
    {t43 : Tok} (c_WAITS : PySem.W.nsIn K mainGlobals "WAITS" = some (some (.int (5) t43)))
    {t44 : Tok} (c_PLACE : PySem.W.nsIn K mainGlobals "PLACE" = some (some (.int (1) t44)))
    {t45 : Tok} (c_PROGRAM : PySem.W.nsIn K mainGlobals "PROGRAM" = some (some (.int (0) t45)))
    {t46 : Tok} (c_REGISTERS : PySem.W.nsIn K mainGlobals "REGISTERS" = some (some (.int (2) t46)))
    {t47 : Tok} (c_MODULUS : PySem.W.nsIn K mainGlobals "MODULUS" = some (some (.int (10000) t47)))
    {t48 : Tok} (c_RECORDS : PySem.W.nsIn K mainGlobals "RECORDS" = some (some (.int (3) t48)))
    {t49 : Tok} (c_ENDS : PySem.W.nsIn K mainGlobals "ENDS" = some (some (.int (4) t49)))
    {f50 : Addr} {e50 : Array DictEntry} {n50 : Nat} (c_RECKONINGS : PySem.W.nsIn K mainGlobals "RECKONINGS" = some (some (.ref f50))) (w_RECKONINGS : K.lookup f50 = some ⟨.type "dict", none, .dict e50 n50, #[]⟩) (y_RECKONINGS : PySem.W.KeysLit w.params e50.toList) (z_RECKONINGS : (f50 == sysModules) = false)
    (v_RECKONINGS : e50.toList.map (fun e => (keyS e, e.val)) = refsOf [("add", f24), ("div", f27), ("less", f29), ("mod", f28), ("mul", f26), ("same", f30), ("sub", f25)])
    {f51 : Addr} (a_NoCode : PySem.W.nsIn K mainGlobals "NoCode" = some (some (.ref f51)))
    (kb_NoCode : PySem.W.subIn K (.ref f51) (.type "BaseException") = some true) (kd_NoCode : PySem.W.hasDictIn K f51 = true) (kt_NoCode : PySem.W.typeIn K (.ref f51) = some (.type "type")) (ki_NoCode : PySem.W.isClsIn K f51 = true) (ks_NoCode : PySem.W.subIn K (.ref f51) (.ref f51) = some true)
    (kx_NoCode : PySem.W.excIn K f51 [.type "ValueError", .type "Exception", .type "BaseException", .type "object"] "ValueError.__new__" = true) (kk_NoCode : PySem.W.keepIn K (.ref f51) = true)
    (k1_NoCode : PySem.W.findIn K (.ref f51) "__getattribute__" = some (some (.builtin "BaseException.__getattribute__"))) (k2_NoCode : PySem.W.findIn K (.ref f51) "__getattr__" = some none) (k3_NoCode : PySem.W.findIn K (.ref f51) "__class__" = some (some (.builtin "object.__class__"))) (k4_NoCode : PySem.W.specialIn K (.builtin "object.__class__") "__get__" = some (some (.builtin "getset_descriptor.__get__"))) (k5_NoCode : PySem.W.takesIn K (.builtin "object.__class__") = some true) (k6_NoCode : PySem.W.mroIn K f51 (.type "object") = some true)
    {f52 : Addr} (a_NoAnswer : PySem.W.nsIn K mainGlobals "NoAnswer" = some (some (.ref f52)))
    (kb_NoAnswer : PySem.W.subIn K (.ref f52) (.type "BaseException") = some true) (kd_NoAnswer : PySem.W.hasDictIn K f52 = true) (kt_NoAnswer : PySem.W.typeIn K (.ref f52) = some (.type "type")) (ki_NoAnswer : PySem.W.isClsIn K f52 = true) (ks_NoAnswer : PySem.W.subIn K (.ref f52) (.ref f52) = some true)
    (kx_NoAnswer : PySem.W.excIn K f52 [.type "ValueError", .type "Exception", .type "BaseException", .type "object"] "ValueError.__new__" = true) (kk_NoAnswer : PySem.W.keepIn K (.ref f52) = true)
    (k1_NoAnswer : PySem.W.findIn K (.ref f52) "__getattribute__" = some (some (.builtin "BaseException.__getattribute__"))) (k2_NoAnswer : PySem.W.findIn K (.ref f52) "__getattr__" = some none) (k3_NoAnswer : PySem.W.findIn K (.ref f52) "__class__" = some (some (.builtin "object.__class__"))) (k4_NoAnswer : PySem.W.specialIn K (.builtin "object.__class__") "__get__" = some (some (.builtin "getset_descriptor.__get__"))) (k5_NoAnswer : PySem.W.takesIn K (.builtin "object.__class__") = some true) (k6_NoAnswer : PySem.W.mroIn K f52 (.type "object") = some true)
    {f53 : Addr} (a_NoRecords : PySem.W.nsIn K mainGlobals "NoRecords" = some (some (.ref f53)))
    (kb_NoRecords : PySem.W.subIn K (.ref f53) (.type "BaseException") = some true) (kd_NoRecords : PySem.W.hasDictIn K f53 = true) (kt_NoRecords : PySem.W.typeIn K (.ref f53) = some (.type "type")) (ki_NoRecords : PySem.W.isClsIn K f53 = true) (ks_NoRecords : PySem.W.subIn K (.ref f53) (.ref f53) = some true)
    {f54 : Addr} (a_NoName : PySem.W.nsIn K mainGlobals "NoName" = some (some (.ref f54)))
    (kb_NoName : PySem.W.subIn K (.ref f54) (.type "BaseException") = some true) (kd_NoName : PySem.W.hasDictIn K f54 = true) (kt_NoName : PySem.W.typeIn K (.ref f54) = some (.type "type")) (ki_NoName : PySem.W.isClsIn K f54 = true) (ks_NoName : PySem.W.subIn K (.ref f54) (.ref f54) = some true)
    {f55 : Addr} (a_NoNumber : PySem.W.nsIn K mainGlobals "NoNumber" = some (some (.ref f55)))
    (kb_NoNumber : PySem.W.subIn K (.ref f55) (.type "BaseException") = some true) (kd_NoNumber : PySem.W.hasDictIn K f55 = true) (kt_NoNumber : PySem.W.typeIn K (.ref f55) = some (.type "type")) (ki_NoNumber : PySem.W.isClsIn K f55 = true) (ks_NoNumber : PySem.W.subIn K (.ref f55) (.ref f55) = some true)
    {f56 : Addr} (a_NoSlot : PySem.W.nsIn K mainGlobals "NoSlot" = some (some (.ref f56)))
    (kb_NoSlot : PySem.W.subIn K (.ref f56) (.type "BaseException") = some true) (kd_NoSlot : PySem.W.hasDictIn K f56 = true) (kt_NoSlot : PySem.W.typeIn K (.ref f56) = some (.type "type")) (ki_NoSlot : PySem.W.isClsIn K f56 = true) (ks_NoSlot : PySem.W.subIn K (.ref f56) (.ref f56) = some true)
    {f57 : Addr} (a_NoJob : PySem.W.nsIn K mainGlobals "NoJob" = some (some (.ref f57)))
    (kb_NoJob : PySem.W.subIn K (.ref f57) (.type "BaseException") = some true) (kd_NoJob : PySem.W.hasDictIn K f57 = true) (kt_NoJob : PySem.W.typeIn K (.ref f57) = some (.type "type")) (ki_NoJob : PySem.W.isClsIn K f57 = true) (ks_NoJob : PySem.W.subIn K (.ref f57) (.ref f57) = some true)
    {f58 : Addr} (a_NoDeck : PySem.W.nsIn K mainGlobals "NoDeck" = some (some (.ref f58)))
    (kb_NoDeck : PySem.W.subIn K (.ref f58) (.type "BaseException") = some true) (kd_NoDeck : PySem.W.hasDictIn K f58 = true) (kt_NoDeck : PySem.W.typeIn K (.ref f58) = some (.type "type")) (ki_NoDeck : PySem.W.isClsIn K f58 = true) (ks_NoDeck : PySem.W.subIn K (.ref f58) (.ref f58) = some true)
    {f59 : Addr} (a_NoPrinter : PySem.W.nsIn K mainGlobals "NoPrinter" = some (some (.ref f59)))
    (kb_NoPrinter : PySem.W.subIn K (.ref f59) (.type "BaseException") = some true) (kd_NoPrinter : PySem.W.hasDictIn K f59 = true) (kt_NoPrinter : PySem.W.typeIn K (.ref f59) = some (.type "type")) (ki_NoPrinter : PySem.W.isClsIn K f59 = true) (ks_NoPrinter : PySem.W.subIn K (.ref f59) (.ref f59) = some true)
    {f60 : Addr} (a_NoDrive : PySem.W.nsIn K mainGlobals "NoDrive" = some (some (.ref f60)))
    (kb_NoDrive : PySem.W.subIn K (.ref f60) (.type "BaseException") = some true) (kd_NoDrive : PySem.W.hasDictIn K f60 = true) (kt_NoDrive : PySem.W.typeIn K (.ref f60) = some (.type "type")) (ki_NoDrive : PySem.W.isClsIn K f60 = true) (ks_NoDrive : PySem.W.subIn K (.ref f60) (.ref f60) = some true)
    {f61 : Addr} (a_NoVolume : PySem.W.nsIn K mainGlobals "NoVolume" = some (some (.ref f61)))
    (kb_NoVolume : PySem.W.subIn K (.ref f61) (.type "BaseException") = some true) (kd_NoVolume : PySem.W.hasDictIn K f61 = true) (kt_NoVolume : PySem.W.typeIn K (.ref f61) = some (.type "type")) (ki_NoVolume : PySem.W.isClsIn K f61 = true) (ks_NoVolume : PySem.W.subIn K (.ref f61) (.ref f61) = some true)
    {f62 : Addr} (a_NoAccount : PySem.W.nsIn K mainGlobals "NoAccount" = some (some (.ref f62)))
    (kb_NoAccount : PySem.W.subIn K (.ref f62) (.type "BaseException") = some true) (kd_NoAccount : PySem.W.hasDictIn K f62 = true) (kt_NoAccount : PySem.W.typeIn K (.ref f62) = some (.type "type")) (ki_NoAccount : PySem.W.isClsIn K f62 = true) (ks_NoAccount : PySem.W.subIn K (.ref f62) (.ref f62) = some true)
    {f63 : Addr} (a_NoEvents : PySem.W.nsIn K mainGlobals "NoEvents" = some (some (.ref f63)))
    (kb_NoEvents : PySem.W.subIn K (.ref f63) (.type "BaseException") = some true) (kd_NoEvents : PySem.W.hasDictIn K f63 = true) (kt_NoEvents : PySem.W.typeIn K (.ref f63) = some (.type "type")) (ki_NoEvents : PySem.W.isClsIn K f63 = true) (ks_NoEvents : PySem.W.subIn K (.ref f63) (.ref f63) = some true)
    {f64 : Addr} (a_IsUp : PySem.W.nsIn K mainGlobals "IsUp" = some (some (.ref f64)))
    (kb_IsUp : PySem.W.subIn K (.ref f64) (.type "BaseException") = some true) (kd_IsUp : PySem.W.hasDictIn K f64 = true) (kt_IsUp : PySem.W.typeIn K (.ref f64) = some (.type "type")) (ki_IsUp : PySem.W.isClsIn K f64 = true) (ks_IsUp : PySem.W.subIn K (.ref f64) (.ref f64) = some true)
    {f65 : Addr} (a_IsDown : PySem.W.nsIn K mainGlobals "IsDown" = some (some (.ref f65)))
    (kb_IsDown : PySem.W.subIn K (.ref f65) (.type "BaseException") = some true) (kd_IsDown : PySem.W.hasDictIn K f65 = true) (kt_IsDown : PySem.W.typeIn K (.ref f65) = some (.type "type")) (ki_IsDown : PySem.W.isClsIn K f65 = true) (ks_IsDown : PySem.W.subIn K (.ref f65) (.ref f65) = some true)
    {f66 : Addr} (a_NoChoices : PySem.W.nsIn K mainGlobals "NoChoices" = some (some (.ref f66)))
    (kb_NoChoices : PySem.W.subIn K (.ref f66) (.type "BaseException") = some true) (kd_NoChoices : PySem.W.hasDictIn K f66 = true) (kt_NoChoices : PySem.W.typeIn K (.ref f66) = some (.type "type")) (ki_NoChoices : PySem.W.isClsIn K f66 = true) (ks_NoChoices : PySem.W.subIn K (.ref f66) (.ref f66) = some true)
    {f67 : Addr} (a_NoRoom : PySem.W.nsIn K mainGlobals "NoRoom" = some (some (.ref f67)))
    (kb_NoRoom : PySem.W.subIn K (.ref f67) (.type "BaseException") = some true) (kd_NoRoom : PySem.W.hasDictIn K f67 = true) (kt_NoRoom : PySem.W.typeIn K (.ref f67) = some (.type "type")) (ki_NoRoom : PySem.W.isClsIn K f67 = true) (ks_NoRoom : PySem.W.subIn K (.ref f67) (.ref f67) = some true)
    {f68 : Addr} (a_NoWords : PySem.W.nsIn K mainGlobals "NoWords" = some (some (.ref f68)))
    (kb_NoWords : PySem.W.subIn K (.ref f68) (.type "BaseException") = some true) (kd_NoWords : PySem.W.hasDictIn K f68 = true) (kt_NoWords : PySem.W.typeIn K (.ref f68) = some (.type "type")) (ki_NoWords : PySem.W.isClsIn K f68 = true) (ks_NoWords : PySem.W.subIn K (.ref f68) (.ref f68) = some true)
    {f69 : Addr} (a_NoValue : PySem.W.nsIn K mainGlobals "NoValue" = some (some (.ref f69)))
    (kb_NoValue : PySem.W.subIn K (.ref f69) (.type "BaseException") = some true) (kd_NoValue : PySem.W.hasDictIn K f69 = true) (kt_NoValue : PySem.W.typeIn K (.ref f69) = some (.type "type")) (ki_NoValue : PySem.W.isClsIn K f69 = true) (ks_NoValue : PySem.W.subIn K (.ref f69) (.ref f69) = some true)
    {f70 : Addr} (a_NoText : PySem.W.nsIn K mainGlobals "NoText" = some (some (.ref f70)))
    (kb_NoText : PySem.W.subIn K (.ref f70) (.type "BaseException") = some true) (kd_NoText : PySem.W.hasDictIn K f70 = true) (kt_NoText : PySem.W.typeIn K (.ref f70) = some (.type "type")) (ki_NoText : PySem.W.isClsIn K f70 = true) (ks_NoText : PySem.W.subIn K (.ref f70) (.ref f70) = some true)
    {f71 : Addr} (a_Busy : PySem.W.nsIn K mainGlobals "Busy" = some (some (.ref f71)))
    (kb_Busy : PySem.W.subIn K (.ref f71) (.type "BaseException") = some true) (kd_Busy : PySem.W.hasDictIn K f71 = true) (kt_Busy : PySem.W.typeIn K (.ref f71) = some (.type "type")) (ki_Busy : PySem.W.isClsIn K f71 = true) (ks_Busy : PySem.W.subIn K (.ref f71) (.ref f71) = some true)
    {f72 : Addr} (a_TooDear : PySem.W.nsIn K mainGlobals "TooDear" = some (some (.ref f72)))
    (kb_TooDear : PySem.W.subIn K (.ref f72) (.type "BaseException") = some true) (kd_TooDear : PySem.W.hasDictIn K f72 = true) (kt_TooDear : PySem.W.typeIn K (.ref f72) = some (.type "type")) (ki_TooDear : PySem.W.isClsIn K f72 = true) (ks_TooDear : PySem.W.subIn K (.ref f72) (.ref f72) = some true)
    {f73 : Addr} (a_YardError : PySem.W.nsIn K mainGlobals "YardError" = some (some (.ref f73)))
    (kb_YardError : PySem.W.subIn K (.ref f73) (.type "BaseException") = some true) (kd_YardError : PySem.W.hasDictIn K f73 = true) (kt_YardError : PySem.W.typeIn K (.ref f73) = some (.type "type")) (ki_YardError : PySem.W.isClsIn K f73 = true) (ks_YardError : PySem.W.subIn K (.ref f73) (.ref f73) = some true)
    (kp_NoAnswer_Busy : PySem.W.subIn K (.ref f52) (.ref f71) = some false)
    (kp_NoAnswer_IsDown : PySem.W.subIn K (.ref f52) (.ref f65) = some false)
    (kp_NoAnswer_IsUp : PySem.W.subIn K (.ref f52) (.ref f64) = some false)
    (kp_NoAnswer_NoAccount : PySem.W.subIn K (.ref f52) (.ref f62) = some false)
    (kp_NoAnswer_NoAnswer : PySem.W.subIn K (.ref f52) (.ref f52) = some true)
    (kp_NoAnswer_NoChoices : PySem.W.subIn K (.ref f52) (.ref f66) = some false)
    (kp_NoAnswer_NoCode : PySem.W.subIn K (.ref f52) (.ref f51) = some false)
    (kp_NoAnswer_NoDeck : PySem.W.subIn K (.ref f52) (.ref f58) = some false)
    (kp_NoAnswer_NoDrive : PySem.W.subIn K (.ref f52) (.ref f60) = some false)
    (kp_NoAnswer_NoEvents : PySem.W.subIn K (.ref f52) (.ref f63) = some false)
    (kp_NoAnswer_NoJob : PySem.W.subIn K (.ref f52) (.ref f57) = some false)
    (kp_NoAnswer_NoName : PySem.W.subIn K (.ref f52) (.ref f54) = some false)
    (kp_NoAnswer_NoNumber : PySem.W.subIn K (.ref f52) (.ref f55) = some false)
    (kp_NoAnswer_NoPrinter : PySem.W.subIn K (.ref f52) (.ref f59) = some false)
    (kp_NoAnswer_NoRecords : PySem.W.subIn K (.ref f52) (.ref f53) = some false)
    (kp_NoAnswer_NoRoom : PySem.W.subIn K (.ref f52) (.ref f67) = some false)
    (kp_NoAnswer_NoSlot : PySem.W.subIn K (.ref f52) (.ref f56) = some false)
    (kp_NoAnswer_NoText : PySem.W.subIn K (.ref f52) (.ref f70) = some false)
    (kp_NoAnswer_NoValue : PySem.W.subIn K (.ref f52) (.ref f69) = some false)
    (kp_NoAnswer_NoVolume : PySem.W.subIn K (.ref f52) (.ref f61) = some false)
    (kp_NoAnswer_NoWords : PySem.W.subIn K (.ref f52) (.ref f68) = some false)
    (kp_NoAnswer_TooDear : PySem.W.subIn K (.ref f52) (.ref f72) = some false)
    (kp_NoAnswer_YardError : PySem.W.subIn K (.ref f52) (.ref f73) = some true)
    (kp_NoCode_Busy : PySem.W.subIn K (.ref f51) (.ref f71) = some false)
    (kp_NoCode_IsDown : PySem.W.subIn K (.ref f51) (.ref f65) = some false)
    (kp_NoCode_IsUp : PySem.W.subIn K (.ref f51) (.ref f64) = some false)
    (kp_NoCode_NoAccount : PySem.W.subIn K (.ref f51) (.ref f62) = some false)
    (kp_NoCode_NoAnswer : PySem.W.subIn K (.ref f51) (.ref f52) = some false)
    (kp_NoCode_NoChoices : PySem.W.subIn K (.ref f51) (.ref f66) = some false)
    (kp_NoCode_NoCode : PySem.W.subIn K (.ref f51) (.ref f51) = some true)
    (kp_NoCode_NoDeck : PySem.W.subIn K (.ref f51) (.ref f58) = some false)
    (kp_NoCode_NoDrive : PySem.W.subIn K (.ref f51) (.ref f60) = some false)
    (kp_NoCode_NoEvents : PySem.W.subIn K (.ref f51) (.ref f63) = some false)
    (kp_NoCode_NoJob : PySem.W.subIn K (.ref f51) (.ref f57) = some false)
    (kp_NoCode_NoName : PySem.W.subIn K (.ref f51) (.ref f54) = some false)
    (kp_NoCode_NoNumber : PySem.W.subIn K (.ref f51) (.ref f55) = some false)
    (kp_NoCode_NoPrinter : PySem.W.subIn K (.ref f51) (.ref f59) = some false)
    (kp_NoCode_NoRecords : PySem.W.subIn K (.ref f51) (.ref f53) = some false)
    (kp_NoCode_NoRoom : PySem.W.subIn K (.ref f51) (.ref f67) = some false)
    (kp_NoCode_NoSlot : PySem.W.subIn K (.ref f51) (.ref f56) = some false)
    (kp_NoCode_NoText : PySem.W.subIn K (.ref f51) (.ref f70) = some false)
    (kp_NoCode_NoValue : PySem.W.subIn K (.ref f51) (.ref f69) = some false)
    (kp_NoCode_NoVolume : PySem.W.subIn K (.ref f51) (.ref f61) = some false)
    (kp_NoCode_NoWords : PySem.W.subIn K (.ref f51) (.ref f68) = some false)
    (kp_NoCode_TooDear : PySem.W.subIn K (.ref f51) (.ref f72) = some false)
    (kp_NoCode_YardError : PySem.W.subIn K (.ref f51) (.ref f73) = some true)
    (kq_NoAnswer_ValueError : PySem.W.subIn K (.ref f52) (.type "ValueError") = some true)
    (kq_NoCode_ValueError : PySem.W.subIn K (.ref f51) (.type "ValueError") = some true)
    (z_isinstance : PySem.W.nsIn K mainGlobals "isinstance" = some none)
    (z_int : PySem.W.nsIn K mainGlobals "int" = some none)
    (z_bool : PySem.W.nsIn K mainGlobals "bool" = some none)
    (z_tuple : PySem.W.nsIn K mainGlobals "tuple" = some none)
    (z_len : PySem.W.nsIn K mainGlobals "len" = some none)
    (z_all : PySem.W.nsIn K mainGlobals "all" = some none)
    (z_str : PySem.W.nsIn K mainGlobals "str" = some none)
    (z_zip : PySem.W.nsIn K mainGlobals "zip" = some none)
    (z_max : PySem.W.nsIn K mainGlobals "max" = some none)
    (z_ValueError : PySem.W.nsIn K mainGlobals "ValueError" = some none) :
    LamX.LawAtS PySem.Challenge.rw_batchyard_k06_minds_answered w K CX0 9 63 "_law_script" mg fa h := by
  have e := hfa.symm.trans (PySem.W.mg_of X G a34)
  cases e
  have F1 := fun_mk (st := s_is_whole) l1 c1 k1
  have F2 := fun_mk (st := s_is_word) l2 c2 k2
  have F3 := fun_mk (st := s_is_record) l3 c3 k3
  have F4 := fun_mk (st := s_is_code) l4 c4 k4
  have F5 := fun_mk (st := s_demand_code) l5 c5 k5
  have F6 := fun_mk (st := s__is_step) l6 c6 k6
  have F7 := fun_mk (st := s__is_part) l7 c7 k7
  have F8 := fun_mk (st := s__is_row) l8 c8 k8
  have F9 := fun_mk (st := s_begun) l9 c9 k9
  have F10 := funD_mk (st := s_gone) l10 c10 k10 dk10 dv10 (fun z => nomatch z)
  have F11 := fun_mk (st := s__answered) l11 c11 k11
  have F12 := fun_mk (st := s__fits) l12 c12 k12
  have F13 := fun_mk (st := s__done) l13 c13 k13
  have F14 := fun_mk (st := s__worth) l14 c14 k14
  have F15 := fun_mk (st := s__field_of) l15 c15 k15
  have F16 := fun_mk (st := s__next_place) l16 c16 k16
  have F17 := fun_mk (st := s__question) l17 c17 k17
  have F18 := fun_mk (st := s__row_of) l18 c18 k18
  have F19 := fun_mk (st := s__asking) l19 c19 k19
  have F20 := fun_mk (st := s__further) l20 c20 k20
  have F21 := fun_mk (st := s__with_record) l21 c21 k21
  have F22 := fun_mk (st := s__with_register) l22 c22 k22
  have F23 := fun_mk (st := s__with_part) l23 c23 k23
  have F24 := fun_mk (st := s__sum_of) l24 c24 k24
  have F25 := fun_mk (st := s__rest_of) l25 c25 k25
  have F26 := fun_mk (st := s__product_of) l26 c26 k26
  have F27 := fun_mk (st := s__quotient_of) l27 c27 k27
  have F28 := fun_mk (st := s__remainder_of) l28 c28 k28
  have F29 := fun_mk (st := s__is_less) l29 c29 k29
  have F30 := fun_mk (st := s__is_same) l30 c30 k30
  have F31 := fun_mk (st := s__law_pick) l31 c31 k31
  have F32 := fun_mk (st := s__law_class) l32 c32 k32
  have F33 := fun_mk (st := s__law_told) l33 c33 k33
  have F34 := fun_mk (st := s_law) l34 c34 k34
  letI : TabQ := ⟨[(pt34, (envOfC "law" (defScope s_law) 0 0 .none).qual ++ "<lambda>")]⟩
  letI : ExQ := ⟨0, 0⟩
  let T : Tx K w mg := {
    f_is_whole := f1, d_is_whole := _, F_is_whole := F1, b_is_whole := F1.binds (ps := ["thing", "low", "high"]) fun _ _ _ _ _ _ us hl => match us, hl with | [_, _, _], _ => rfl, g_is_whole := PySem.W.mg_of X G a1,
    f_is_word := f2, d_is_word := _, F_is_word := F2, b_is_word := F2.binds (ps := ["thing"]) fun _ _ _ _ _ _ us hl => match us, hl with | [_], _ => rfl, g_is_word := PySem.W.mg_of X G a2,
    f_is_record := f3, d_is_record := _, F_is_record := F3, b_is_record := F3.binds (ps := ["thing"]) fun _ _ _ _ _ _ us hl => match us, hl with | [_], _ => rfl, g_is_record := PySem.W.mg_of X G a3,
    f_is_code := f4, d_is_code := _, F_is_code := F4, b_is_code := F4.binds (ps := ["thing"]) fun _ _ _ _ _ _ us hl => match us, hl with | [_], _ => rfl, g_is_code := PySem.W.mg_of X G a4,
    f_demand_code := f5, d_demand_code := _, F_demand_code := F5, b_demand_code := F5.binds (ps := ["thing"]) fun _ _ _ _ _ _ us hl => match us, hl with | [_], _ => rfl, g_demand_code := PySem.W.mg_of X G a5,
    f__is_step := f6, d__is_step := _, F__is_step := F6, b__is_step := F6.binds (ps := ["thing", "many"]) fun _ _ _ _ _ _ us hl => match us, hl with | [_, _], _ => rfl, g__is_step := PySem.W.mg_of X G a6,
    f__is_part := f7, d__is_part := _, F__is_part := F7, b__is_part := F7.binds (ps := ["thing", "kind", "many"]) fun _ _ _ _ _ _ us hl => match us, hl with | [_, _, _], _ => rfl, g__is_part := PySem.W.mg_of X G a7,
    f__is_row := f8, d__is_row := _, F__is_row := F8, b__is_row := F8.binds (ps := ["thing"]) fun _ _ _ _ _ _ us hl => match us, hl with | [_], _ => rfl, g__is_row := PySem.W.mg_of X G a8,
    f_begun := f9, d_begun := _, F_begun := F9, b_begun := F9.binds (ps := ["code", "parameters"]) fun _ _ _ _ _ _ us hl => match us, hl with | [_, _], _ => rfl, g_begun := PySem.W.mg_of X G a9,
    f_gone := f10, d_gone := _, F_gone := F10, b_gone := binds_all (dvs := [V.non]) (F10.binds1 (ps := ["mind", "answer"]) 2 1 (fun z => nomatch z) rfl fun _ _ _ _ _ _ _ us its hu hi => match us, its, hu, hi with | [_, _], [_], _, _ => ⟨_, rfl, rfl⟩), l_gone := Classical.choose (F10.binds1 (ps := ["mind", "answer"]) 1 0 (fun z => nomatch z) rfl fun _ _ _ _ _ _ _ us its hu hi => match us, its, hu, hi with | [_], [_], _, _ => ⟨_, rfl, rfl⟩), v_gone := (Classical.choose_spec (F10.binds1 (ps := ["mind", "answer"]) 1 0 (fun z => nomatch z) rfl fun _ _ _ _ _ _ _ us its hu hi => match us, its, hu, hi with | [_], [_], _, _ => ⟨_, rfl, rfl⟩)).1, e_gone := (Classical.choose_spec (F10.binds1 (ps := ["mind", "answer"]) 1 0 (fun z => nomatch z) rfl fun _ _ _ _ _ _ _ us its hu hi => match us, its, hu, hi with | [_], [_], _, _ => ⟨_, rfl, rfl⟩)).2, g_gone := PySem.W.mg_of X G a10,
    f__answered := f11, d__answered := _, F__answered := F11, b__answered := F11.binds (ps := ["mind", "answer"]) fun _ _ _ _ _ _ us hl => match us, hl with | [_, _], _ => rfl, g__answered := PySem.W.mg_of X G a11,
    f__fits := f12, d__fits := _, F__fits := F12, b__fits := F12.binds (ps := ["waits", "answer"]) fun _ _ _ _ _ _ us hl => match us, hl with | [_, _], _ => rfl, g__fits := PySem.W.mg_of X G a12,
    f__done := f13, d__done := _, F__done := F13, b__done := F13.binds (ps := ["mind", "step"]) fun _ _ _ _ _ _ us hl => match us, hl with | [_, _], _ => rfl, g__done := PySem.W.mg_of X G a13,
    f__worth := f14, d__worth := _, F__worth := F14, b__worth := F14.binds (ps := ["mind", "step"]) fun _ _ _ _ _ _ us hl => match us, hl with | [_, _], _ => rfl, g__worth := PySem.W.mg_of X G a14,
    f__field_of := f15, d__field_of := _, F__field_of := F15, b__field_of := F15.binds (ps := ["record", "at"]) fun _ _ _ _ _ _ us hl => match us, hl with | [_, _], _ => rfl, g__field_of := PySem.W.mg_of X G a15,
    f__next_place := f16, d__next_place := _, F__next_place := F16, b__next_place := F16.binds (ps := ["mind", "step"]) fun _ _ _ _ _ _ us hl => match us, hl with | [_, _], _ => rfl, g__next_place := PySem.W.mg_of X G a16,
    f__question := f17, d__question := _, F__question := F17, b__question := F17.binds (ps := ["mind", "step"]) fun _ _ _ _ _ _ us hl => match us, hl with | [_, _], _ => rfl, g__question := PySem.W.mg_of X G a17,
    f__row_of := f18, d__row_of := _, F__row_of := F18, b__row_of := F18.binds (ps := ["registers", "row"]) fun _ _ _ _ _ _ us hl => match us, hl with | [_, _], _ => rfl, g__row_of := PySem.W.mg_of X G a18,
    f__asking := f19, d__asking := _, F__asking := F19, b__asking := F19.binds (ps := ["mind", "asked"]) fun _ _ _ _ _ _ us hl => match us, hl with | [_, _], _ => rfl, g__asking := PySem.W.mg_of X G a19,
    f__further := f20, d__further := _, F__further := F20, b__further := F20.binds (ps := ["mind"]) fun _ _ _ _ _ _ us hl => match us, hl with | [_], _ => rfl, g__further := PySem.W.mg_of X G a20,
    f__with_record := f21, d__with_record := _, F__with_record := F21, b__with_record := F21.binds (ps := ["mind", "card", "record"]) fun _ _ _ _ _ _ us hl => match us, hl with | [_, _, _], _ => rfl, g__with_record := PySem.W.mg_of X G a21,
    f__with_register := f22, d__with_register := _, F__with_register := F22, b__with_register := F22.binds (ps := ["mind", "at", "word"]) fun _ _ _ _ _ _ us hl => match us, hl with | [_, _, _], _ => rfl, g__with_register := PySem.W.mg_of X G a22,
    f__with_part := f23, d__with_part := _, F__with_part := F23, b__with_part := F23.binds (ps := ["row", "at", "part"]) fun _ _ _ _ _ _ us hl => match us, hl with | [_, _, _], _ => rfl, g__with_part := PySem.W.mg_of X G a23,
    f__sum_of := f24, d__sum_of := _, F__sum_of := F24, b__sum_of := F24.binds (ps := ["left", "right"]) fun _ _ _ _ _ _ us hl => match us, hl with | [_, _], _ => rfl, g__sum_of := PySem.W.mg_of X G a24,
    f__rest_of := f25, d__rest_of := _, F__rest_of := F25, b__rest_of := F25.binds (ps := ["left", "right"]) fun _ _ _ _ _ _ us hl => match us, hl with | [_, _], _ => rfl, g__rest_of := PySem.W.mg_of X G a25,
    f__product_of := f26, d__product_of := _, F__product_of := F26, b__product_of := F26.binds (ps := ["left", "right"]) fun _ _ _ _ _ _ us hl => match us, hl with | [_, _], _ => rfl, g__product_of := PySem.W.mg_of X G a26,
    f__quotient_of := f27, d__quotient_of := _, F__quotient_of := F27, b__quotient_of := F27.binds (ps := ["left", "right"]) fun _ _ _ _ _ _ us hl => match us, hl with | [_, _], _ => rfl, g__quotient_of := PySem.W.mg_of X G a27,
    f__remainder_of := f28, d__remainder_of := _, F__remainder_of := F28, b__remainder_of := F28.binds (ps := ["left", "right"]) fun _ _ _ _ _ _ us hl => match us, hl with | [_, _], _ => rfl, g__remainder_of := PySem.W.mg_of X G a28,
    f__is_less := f29, d__is_less := _, F__is_less := F29, b__is_less := F29.binds (ps := ["left", "right"]) fun _ _ _ _ _ _ us hl => match us, hl with | [_, _], _ => rfl, g__is_less := PySem.W.mg_of X G a29,
    f__is_same := f30, d__is_same := _, F__is_same := F30, b__is_same := F30.binds (ps := ["left", "right"]) fun _ _ _ _ _ _ us hl => match us, hl with | [_, _], _ => rfl, g__is_same := PySem.W.mg_of X G a30,
    f__law_pick := f31, d__law_pick := _, F__law_pick := F31, b__law_pick := F31.binds (ps := ["_law_script", "_law_k", "_law_many"]) fun _ _ _ _ _ _ us hl => match us, hl with | [_, _, _], _ => rfl, g__law_pick := PySem.W.mg_of X G a31,
    f__law_class := f32, d__law_class := _, F__law_class := F32, b__law_class := F32.binds (ps := ["_law_e"]) fun _ _ _ _ _ _ us hl => match us, hl with | [_], _ => rfl, g__law_class := PySem.W.mg_of X G a32,
    f__law_told := f33, d__law_told := _, F__law_told := F33, b__law_told := F33.binds (ps := ["_law_deed"]) fun _ _ _ _ _ _ us hl => match us, hl with | [_], _ => rfl, g__law_told := PySem.W.mg_of X G a33,
    f_law := fa, d_law := _, F_law := F34, b_law := F34.binds (ps := ["_law_script"]) fun _ _ _ _ _ _ us hl => match us, hl with | [_], _ => rfl, g_law := PySem.W.mg_of X G a34,
    t_GREATEST_WORD := t35, c_GREATEST_WORD := PySem.W.mg_of X G c_GREATEST_WORD,
    t_MOST_WORDS := t36, c_MOST_WORDS := PySem.W.mg_of X G c_MOST_WORDS,
    t_MOST_STEPS := t37, c_MOST_STEPS := PySem.W.mg_of X G c_MOST_STEPS,
    k_PARTS := f38, C_PARTS := dictC_mk w_PARTS y_PARTS z_PARTS v_PARTS (ents_cons (deV_tup t38_0 z38_0 u38_0) (ents_cons (deV_tup t38_1 z38_1 u38_1) (ents_cons (deV_tup t38_2 z38_2 u38_2) (ents_cons (deV_tup t38_3 z38_3 u38_3) (ents_cons (deV_tup t38_4 z38_4 u38_4) (ents_cons (deV_tup t38_5 z38_5 u38_5) (ents_cons (deV_tup t38_6 z38_6 u38_6) (ents_cons (deV_tup t38_7 z38_7 u38_7) (ents_cons (deV_tup t38_8 z38_8 u38_8) (ents_cons (deV_tup t38_9 z38_9 u38_9) (ents_cons (deV_tup t38_10 z38_10 u38_10) (ents_cons (deV_tup t38_11 z38_11 u38_11) (ents_cons (deV_tup t38_12 z38_12 u38_12) (ents_cons (deV_tup t38_13 z38_13 u38_13) (ents_cons (deV_tup t38_14 z38_14 u38_14) (ents_cons (deV_tup t38_15 z38_15 u38_15) (ents_cons (deV_tup t38_16 z38_16 u38_16) (ents_cons (deV_tup t38_17 z38_17 u38_17) ents_nil)))))))))))))))))), c_PARTS := PySem.W.mg_of X G c_PARTS,
    k_GREATEST := f39, C_GREATEST := dictC_mk w_GREATEST y_GREATEST z_GREATEST v_GREATEST (ents_cons rfl (ents_cons rfl (ents_cons rfl ents_nil))), c_GREATEST := PySem.W.mg_of X G c_GREATEST,
    t_MOST_ROW := t40, c_MOST_ROW := PySem.W.mg_of X G c_MOST_ROW,
    t_MANY_REGISTERS := t41, c_MANY_REGISTERS := PySem.W.mg_of X G c_MANY_REGISTERS,
    t_MANY_CARDS := t42, c_MANY_CARDS := PySem.W.mg_of X G c_MANY_CARDS,
    t_WAITS := t43, c_WAITS := PySem.W.mg_of X G c_WAITS,
    t_PLACE := t44, c_PLACE := PySem.W.mg_of X G c_PLACE,
    t_PROGRAM := t45, c_PROGRAM := PySem.W.mg_of X G c_PROGRAM,
    t_REGISTERS := t46, c_REGISTERS := PySem.W.mg_of X G c_REGISTERS,
    t_MODULUS := t47, c_MODULUS := PySem.W.mg_of X G c_MODULUS,
    t_RECORDS := t48, c_RECORDS := PySem.W.mg_of X G c_RECORDS,
    t_ENDS := t49, c_ENDS := PySem.W.mg_of X G c_ENDS,
    k_RECKONINGS := f50, C_RECKONINGS := dictF_mk w_RECKONINGS y_RECKONINGS z_RECKONINGS v_RECKONINGS, c_RECKONINGS := PySem.W.mg_of X G c_RECKONINGS,
    C_NoCode := f51, g_NoCode := PySem.W.mg_of X G a_NoCode,
    x_NoCode := kx_NoCode, k_NoCode := kk_NoCode, b_NoCode := kb_NoCode, t_NoCode := kt_NoCode,
    E_NoCode := ⟨k1_NoCode, k2_NoCode, kb_NoCode, kd_NoCode, k3_NoCode, k4_NoCode, k5_NoCode, k6_NoCode⟩,
    C_NoAnswer := f52, g_NoAnswer := PySem.W.mg_of X G a_NoAnswer,
    x_NoAnswer := kx_NoAnswer, k_NoAnswer := kk_NoAnswer, b_NoAnswer := kb_NoAnswer, t_NoAnswer := kt_NoAnswer,
    E_NoAnswer := ⟨k1_NoAnswer, k2_NoAnswer, kb_NoAnswer, kd_NoAnswer, k3_NoAnswer, k4_NoAnswer, k5_NoAnswer, k6_NoAnswer⟩,
    C_NoRecords := f53, g_NoRecords := PySem.W.mg_of X G a_NoRecords,
    C_NoName := f54, g_NoName := PySem.W.mg_of X G a_NoName,
    C_NoNumber := f55, g_NoNumber := PySem.W.mg_of X G a_NoNumber,
    C_NoSlot := f56, g_NoSlot := PySem.W.mg_of X G a_NoSlot,
    C_NoJob := f57, g_NoJob := PySem.W.mg_of X G a_NoJob,
    C_NoDeck := f58, g_NoDeck := PySem.W.mg_of X G a_NoDeck,
    C_NoPrinter := f59, g_NoPrinter := PySem.W.mg_of X G a_NoPrinter,
    C_NoDrive := f60, g_NoDrive := PySem.W.mg_of X G a_NoDrive,
    C_NoVolume := f61, g_NoVolume := PySem.W.mg_of X G a_NoVolume,
    C_NoAccount := f62, g_NoAccount := PySem.W.mg_of X G a_NoAccount,
    C_NoEvents := f63, g_NoEvents := PySem.W.mg_of X G a_NoEvents,
    C_IsUp := f64, g_IsUp := PySem.W.mg_of X G a_IsUp,
    C_IsDown := f65, g_IsDown := PySem.W.mg_of X G a_IsDown,
    C_NoChoices := f66, g_NoChoices := PySem.W.mg_of X G a_NoChoices,
    C_NoRoom := f67, g_NoRoom := PySem.W.mg_of X G a_NoRoom,
    C_NoWords := f68, g_NoWords := PySem.W.mg_of X G a_NoWords,
    C_NoValue := f69, g_NoValue := PySem.W.mg_of X G a_NoValue,
    C_NoText := f70, g_NoText := PySem.W.mg_of X G a_NoText,
    C_Busy := f71, g_Busy := PySem.W.mg_of X G a_Busy,
    C_TooDear := f72, g_TooDear := PySem.W.mg_of X G a_TooDear,
    C_YardError := f73, g_YardError := PySem.W.mg_of X G a_YardError,
    q_NoAnswer_ValueError := kit_ty (by decide +kernel) kq_NoAnswer_ValueError,
    q_NoCode_ValueError := kit_ty (by decide +kernel) kq_NoCode_ValueError,
    e_NoAnswer_YardError := PySem.W.exm_ref kb_YardError kd_YardError kt_YardError kp_NoAnswer_YardError,
    e_NoCode_YardError := PySem.W.exm_ref kb_YardError kd_YardError kt_YardError kp_NoCode_YardError,
    q_NoAnswer_Busy := kit_of ki_Busy kt_Busy kp_NoAnswer_Busy ks_Busy,
    q_NoAnswer_IsDown := kit_of ki_IsDown kt_IsDown kp_NoAnswer_IsDown ks_IsDown,
    q_NoAnswer_IsUp := kit_of ki_IsUp kt_IsUp kp_NoAnswer_IsUp ks_IsUp,
    q_NoAnswer_NoAccount := kit_of ki_NoAccount kt_NoAccount kp_NoAnswer_NoAccount ks_NoAccount,
    q_NoAnswer_NoAnswer := kit_of ki_NoAnswer kt_NoAnswer kp_NoAnswer_NoAnswer ks_NoAnswer,
    q_NoAnswer_NoChoices := kit_of ki_NoChoices kt_NoChoices kp_NoAnswer_NoChoices ks_NoChoices,
    q_NoAnswer_NoCode := kit_of ki_NoCode kt_NoCode kp_NoAnswer_NoCode ks_NoCode,
    q_NoAnswer_NoDeck := kit_of ki_NoDeck kt_NoDeck kp_NoAnswer_NoDeck ks_NoDeck,
    q_NoAnswer_NoDrive := kit_of ki_NoDrive kt_NoDrive kp_NoAnswer_NoDrive ks_NoDrive,
    q_NoAnswer_NoEvents := kit_of ki_NoEvents kt_NoEvents kp_NoAnswer_NoEvents ks_NoEvents,
    q_NoAnswer_NoJob := kit_of ki_NoJob kt_NoJob kp_NoAnswer_NoJob ks_NoJob,
    q_NoAnswer_NoName := kit_of ki_NoName kt_NoName kp_NoAnswer_NoName ks_NoName,
    q_NoAnswer_NoNumber := kit_of ki_NoNumber kt_NoNumber kp_NoAnswer_NoNumber ks_NoNumber,
    q_NoAnswer_NoPrinter := kit_of ki_NoPrinter kt_NoPrinter kp_NoAnswer_NoPrinter ks_NoPrinter,
    q_NoAnswer_NoRecords := kit_of ki_NoRecords kt_NoRecords kp_NoAnswer_NoRecords ks_NoRecords,
    q_NoAnswer_NoRoom := kit_of ki_NoRoom kt_NoRoom kp_NoAnswer_NoRoom ks_NoRoom,
    q_NoAnswer_NoSlot := kit_of ki_NoSlot kt_NoSlot kp_NoAnswer_NoSlot ks_NoSlot,
    q_NoAnswer_NoText := kit_of ki_NoText kt_NoText kp_NoAnswer_NoText ks_NoText,
    q_NoAnswer_NoValue := kit_of ki_NoValue kt_NoValue kp_NoAnswer_NoValue ks_NoValue,
    q_NoAnswer_NoVolume := kit_of ki_NoVolume kt_NoVolume kp_NoAnswer_NoVolume ks_NoVolume,
    q_NoAnswer_NoWords := kit_of ki_NoWords kt_NoWords kp_NoAnswer_NoWords ks_NoWords,
    q_NoAnswer_TooDear := kit_of ki_TooDear kt_TooDear kp_NoAnswer_TooDear ks_TooDear,
    q_NoCode_Busy := kit_of ki_Busy kt_Busy kp_NoCode_Busy ks_Busy,
    q_NoCode_IsDown := kit_of ki_IsDown kt_IsDown kp_NoCode_IsDown ks_IsDown,
    q_NoCode_IsUp := kit_of ki_IsUp kt_IsUp kp_NoCode_IsUp ks_IsUp,
    q_NoCode_NoAccount := kit_of ki_NoAccount kt_NoAccount kp_NoCode_NoAccount ks_NoAccount,
    q_NoCode_NoAnswer := kit_of ki_NoAnswer kt_NoAnswer kp_NoCode_NoAnswer ks_NoAnswer,
    q_NoCode_NoChoices := kit_of ki_NoChoices kt_NoChoices kp_NoCode_NoChoices ks_NoChoices,
    q_NoCode_NoCode := kit_of ki_NoCode kt_NoCode kp_NoCode_NoCode ks_NoCode,
    q_NoCode_NoDeck := kit_of ki_NoDeck kt_NoDeck kp_NoCode_NoDeck ks_NoDeck,
    q_NoCode_NoDrive := kit_of ki_NoDrive kt_NoDrive kp_NoCode_NoDrive ks_NoDrive,
    q_NoCode_NoEvents := kit_of ki_NoEvents kt_NoEvents kp_NoCode_NoEvents ks_NoEvents,
    q_NoCode_NoJob := kit_of ki_NoJob kt_NoJob kp_NoCode_NoJob ks_NoJob,
    q_NoCode_NoName := kit_of ki_NoName kt_NoName kp_NoCode_NoName ks_NoName,
    q_NoCode_NoNumber := kit_of ki_NoNumber kt_NoNumber kp_NoCode_NoNumber ks_NoNumber,
    q_NoCode_NoPrinter := kit_of ki_NoPrinter kt_NoPrinter kp_NoCode_NoPrinter ks_NoPrinter,
    q_NoCode_NoRecords := kit_of ki_NoRecords kt_NoRecords kp_NoCode_NoRecords ks_NoRecords,
    q_NoCode_NoRoom := kit_of ki_NoRoom kt_NoRoom kp_NoCode_NoRoom ks_NoRoom,
    q_NoCode_NoSlot := kit_of ki_NoSlot kt_NoSlot kp_NoCode_NoSlot ks_NoSlot,
    q_NoCode_NoText := kit_of ki_NoText kt_NoText kp_NoCode_NoText ks_NoText,
    q_NoCode_NoValue := kit_of ki_NoValue kt_NoValue kp_NoCode_NoValue ks_NoValue,
    q_NoCode_NoVolume := kit_of ki_NoVolume kt_NoVolume kp_NoCode_NoVolume ks_NoVolume,
    q_NoCode_NoWords := kit_of ki_NoWords kt_NoWords kp_NoCode_NoWords ks_NoWords,
    q_NoCode_TooDear := kit_of ki_TooDear kt_TooDear kp_NoCode_TooDear ks_TooDear,
    n_isinstance := PySem.W.mg_none_of X G z_isinstance,
    n_int := PySem.W.mg_none_of X G z_int,
    n_bool := PySem.W.mg_none_of X G z_bool,
    n_tuple := PySem.W.mg_none_of X G z_tuple,
    n_len := PySem.W.mg_none_of X G z_len,
    n_all := PySem.W.mg_none_of X G z_all,
    n_str := PySem.W.mg_none_of X G z_str,
    n_zip := PySem.W.mg_none_of X G z_zip,
    n_max := PySem.W.mg_none_of X G z_max,
    n_ValueError := PySem.W.mg_none_of X G z_ValueError,
    co_law := co34, cd_law := rfl, P_law := pt34 }
  exact law_at X own l34 rfl rfl kl34 kp34 (head_mk kl34 kp34 ka34 kb34 kc34 kd34 ke34) kn34 (fun s v => .of_eq rfl) law_true fun base _ _ tb => ok_law T ⟨tb, List.mem_cons_self, fun p hp _ => by
    have ep := List.mem_singleton.mp hp
    rw [ep]⟩
end DD
open PySem PySem.W PyProof.Rows
set_option maxHeartbeats 0 in
theorem PySem.Challenge.cw_batchyard_k06_minds_answered_holds : PySem.Challenge.rw_batchyard_k06_minds_answered.Holds := by
  w_on; o_law; k_head; (case hw => w_witness2)
  k_fill
  refine LamX.walk_ofOwn (l := PySem.Challenge.rw_batchyard_k06_minds_answered) (n := 63) (k := 9) (x := "_law_script") (CX := fun _ => L2.CX0) rfl (by decide) rfl ⟨rfl, by decide, by decide⟩ (by decide +kernel) (fun w h Y => PySem.W.km_in_of Y) ?F (fun _ _ _ _ _ h => h)
  case F =>
    intro w mg fa h Y KX G hmg own
    refine' DD.all_mk KX G hmg own ?a1 ?l1 ?c1 ?k1 ?a2 ?l2 ?c2 ?k2 ?a3 ?l3 ?c3 ?k3 ?a4 ?l4 ?c4 ?k4 ?a5 ?l5 ?c5 ?k5 ?a6 ?l6 ?c6 ?k6 ?a7 ?l7 ?c7 ?k7 ?a8 ?l8 ?c8 ?k8 ?a9 ?l9 ?c9 ?k9 ?a10 ?l10 ?c10 ?k10 ?dk10 ?dv10 ?a11 ?l11 ?c11 ?k11 ?a12 ?l12 ?c12 ?k12 ?a13 ?l13 ?c13 ?k13 ?a14 ?l14 ?c14 ?k14 ?a15 ?l15 ?c15 ?k15 ?a16 ?l16 ?c16 ?k16 ?a17 ?l17 ?c17 ?k17 ?a18 ?l18 ?c18 ?k18 ?a19 ?l19 ?c19 ?k19 ?a20 ?l20 ?c20 ?k20 ?a21 ?l21 ?c21 ?k21 ?a22 ?l22 ?c22 ?k22 ?a23 ?l23 ?c23 ?k23 ?a24 ?l24 ?c24 ?k24 ?a25 ?l25 ?c25 ?k25 ?a26 ?l26 ?c26 ?k26 ?a27 ?l27 ?c27 ?k27 ?a28 ?l28 ?c28 ?k28 ?a29 ?l29 ?c29 ?k29 ?a30 ?l30 ?c30 ?k30 ?a31 ?l31 ?c31 ?k31 ?a32 ?l32 ?c32 ?k32 ?a33 ?l33 ?c33 ?k33 ?a34 ?l34 ?c34 ?k34 ?kl34 ?kp34 ?ka34 ?kb34 ?kc34 ?kd34 ?ke34 ?kn34 ?c_GREATEST_WORD ?c_MOST_WORDS ?c_MOST_STEPS ?c_PARTS ?w_PARTS ?y_PARTS ?z_PARTS ?v_PARTS ?t38_0 ?z38_0 ?u38_0 ?t38_1 ?z38_1 ?u38_1 ?t38_2 ?z38_2 ?u38_2 ?t38_3 ?z38_3 ?u38_3 ?t38_4 ?z38_4 ?u38_4 ?t38_5 ?z38_5 ?u38_5 ?t38_6 ?z38_6 ?u38_6 ?t38_7 ?z38_7 ?u38_7 ?t38_8 ?z38_8 ?u38_8 ?t38_9 ?z38_9 ?u38_9 ?t38_10 ?z38_10 ?u38_10 ?t38_11 ?z38_11 ?u38_11 ?t38_12 ?z38_12 ?u38_12 ?t38_13 ?z38_13 ?u38_13 ?t38_14 ?z38_14 ?u38_14 ?t38_15 ?z38_15 ?u38_15 ?t38_16 ?z38_16 ?u38_16 ?t38_17 ?z38_17 ?u38_17 ?c_GREATEST ?w_GREATEST ?y_GREATEST ?z_GREATEST ?v_GREATEST ?c_MOST_ROW ?c_MANY_REGISTERS ?c_MANY_CARDS ?c_WAITS ?c_PLACE ?c_PROGRAM ?c_REGISTERS ?c_MODULUS ?c_RECORDS ?c_ENDS ?c_RECKONINGS ?w_RECKONINGS ?y_RECKONINGS ?z_RECKONINGS ?v_RECKONINGS ?a_NoCode ?kb_NoCode ?kd_NoCode ?kt_NoCode ?ki_NoCode ?ks_NoCode ?kx_NoCode ?kk_NoCode ?k1_NoCode ?k2_NoCode ?k3_NoCode ?k4_NoCode ?k5_NoCode ?k6_NoCode ?a_NoAnswer ?kb_NoAnswer ?kd_NoAnswer ?kt_NoAnswer ?ki_NoAnswer ?ks_NoAnswer ?kx_NoAnswer ?kk_NoAnswer ?k1_NoAnswer ?k2_NoAnswer ?k3_NoAnswer ?k4_NoAnswer ?k5_NoAnswer ?k6_NoAnswer ?a_NoRecords ?kb_NoRecords ?kd_NoRecords ?kt_NoRecords ?ki_NoRecords ?ks_NoRecords ?a_NoName ?kb_NoName ?kd_NoName ?kt_NoName ?ki_NoName ?ks_NoName ?a_NoNumber ?kb_NoNumber ?kd_NoNumber ?kt_NoNumber ?ki_NoNumber ?ks_NoNumber ?a_NoSlot ?kb_NoSlot ?kd_NoSlot ?kt_NoSlot ?ki_NoSlot ?ks_NoSlot ?a_NoJob ?kb_NoJob ?kd_NoJob ?kt_NoJob ?ki_NoJob ?ks_NoJob ?a_NoDeck ?kb_NoDeck ?kd_NoDeck ?kt_NoDeck ?ki_NoDeck ?ks_NoDeck ?a_NoPrinter ?kb_NoPrinter ?kd_NoPrinter ?kt_NoPrinter ?ki_NoPrinter ?ks_NoPrinter ?a_NoDrive ?kb_NoDrive ?kd_NoDrive ?kt_NoDrive ?ki_NoDrive ?ks_NoDrive ?a_NoVolume ?kb_NoVolume ?kd_NoVolume ?kt_NoVolume ?ki_NoVolume ?ks_NoVolume ?a_NoAccount ?kb_NoAccount ?kd_NoAccount ?kt_NoAccount ?ki_NoAccount ?ks_NoAccount ?a_NoEvents ?kb_NoEvents ?kd_NoEvents ?kt_NoEvents ?ki_NoEvents ?ks_NoEvents ?a_IsUp ?kb_IsUp ?kd_IsUp ?kt_IsUp ?ki_IsUp ?ks_IsUp ?a_IsDown ?kb_IsDown ?kd_IsDown ?kt_IsDown ?ki_IsDown ?ks_IsDown ?a_NoChoices ?kb_NoChoices ?kd_NoChoices ?kt_NoChoices ?ki_NoChoices ?ks_NoChoices ?a_NoRoom ?kb_NoRoom ?kd_NoRoom ?kt_NoRoom ?ki_NoRoom ?ks_NoRoom ?a_NoWords ?kb_NoWords ?kd_NoWords ?kt_NoWords ?ki_NoWords ?ks_NoWords ?a_NoValue ?kb_NoValue ?kd_NoValue ?kt_NoValue ?ki_NoValue ?ks_NoValue ?a_NoText ?kb_NoText ?kd_NoText ?kt_NoText ?ki_NoText ?ks_NoText ?a_Busy ?kb_Busy ?kd_Busy ?kt_Busy ?ki_Busy ?ks_Busy ?a_TooDear ?kb_TooDear ?kd_TooDear ?kt_TooDear ?ki_TooDear ?ks_TooDear ?a_YardError ?kb_YardError ?kd_YardError ?kt_YardError ?ki_YardError ?ks_YardError ?kp_NoAnswer_Busy ?kp_NoAnswer_IsDown ?kp_NoAnswer_IsUp ?kp_NoAnswer_NoAccount ?kp_NoAnswer_NoAnswer ?kp_NoAnswer_NoChoices ?kp_NoAnswer_NoCode ?kp_NoAnswer_NoDeck ?kp_NoAnswer_NoDrive ?kp_NoAnswer_NoEvents ?kp_NoAnswer_NoJob ?kp_NoAnswer_NoName ?kp_NoAnswer_NoNumber ?kp_NoAnswer_NoPrinter ?kp_NoAnswer_NoRecords ?kp_NoAnswer_NoRoom ?kp_NoAnswer_NoSlot ?kp_NoAnswer_NoText ?kp_NoAnswer_NoValue ?kp_NoAnswer_NoVolume ?kp_NoAnswer_NoWords ?kp_NoAnswer_TooDear ?kp_NoAnswer_YardError ?kp_NoCode_Busy ?kp_NoCode_IsDown ?kp_NoCode_IsUp ?kp_NoCode_NoAccount ?kp_NoCode_NoAnswer ?kp_NoCode_NoChoices ?kp_NoCode_NoCode ?kp_NoCode_NoDeck ?kp_NoCode_NoDrive ?kp_NoCode_NoEvents ?kp_NoCode_NoJob ?kp_NoCode_NoName ?kp_NoCode_NoNumber ?kp_NoCode_NoPrinter ?kp_NoCode_NoRecords ?kp_NoCode_NoRoom ?kp_NoCode_NoSlot ?kp_NoCode_NoText ?kp_NoCode_NoValue ?kp_NoCode_NoVolume ?kp_NoCode_NoWords ?kp_NoCode_TooDear ?kp_NoCode_YardError ?kq_NoAnswer_ValueError ?kq_NoCode_ValueError ?z_isinstance ?z_int ?z_bool ?z_tuple ?z_len ?z_all ?z_str ?z_zip ?z_max ?z_ValueError
    (case a1 => k_is); (case l1 => k_is); (case c1 => k_is); (case k1 => k_is); (case a2 => k_is); (case l2 => k_is); (case c2 => k_is); (case k2 => k_is); (case a3 => k_is); (case l3 => k_is); (case c3 => k_is); (case k3 => k_is); (case a4 => k_is); (case l4 => k_is); (case c4 => k_is); (case k4 => k_is); (case a5 => k_is); (case l5 => k_is); (case c5 => k_is); (case k5 => k_is); (case a6 => k_is); (case l6 => k_is); (case c6 => k_is); (case k6 => k_is); (case a7 => k_is); (case l7 => k_is); (case c7 => k_is); (case k7 => k_is); (case a8 => k_is); (case l8 => k_is); (case c8 => k_is); (case k8 => k_is); (case a9 => k_is); (case l9 => k_is); (case c9 => k_is); (case k9 => k_is); (case a10 => k_is); (case l10 => k_is); (case c10 => k_is); (case k10 => k_is); (case dk10 => k_is); (case dv10 => exact .cons (by first | exact rfl | exact ⟨_, rfl⟩) (.nil)); (case a11 => k_is); (case l11 => k_is); (case c11 => k_is); (case k11 => k_is); (case a12 => k_is); (case l12 => k_is); (case c12 => k_is); (case k12 => k_is); (case a13 => k_is); (case l13 => k_is); (case c13 => k_is); (case k13 => k_is); (case a14 => k_is); (case l14 => k_is); (case c14 => k_is); (case k14 => k_is); (case a15 => k_is); (case l15 => k_is); (case c15 => k_is); (case k15 => k_is); (case a16 => k_is); (case l16 => k_is); (case c16 => k_is); (case k16 => k_is); (case a17 => k_is); (case l17 => k_is); (case c17 => k_is); (case k17 => k_is); (case a18 => k_is); (case l18 => k_is); (case c18 => k_is); (case k18 => k_is); (case a19 => k_is); (case l19 => k_is); (case c19 => k_is); (case k19 => k_is); (case a20 => k_is); (case l20 => k_is); (case c20 => k_is); (case k20 => k_is); (case a21 => k_is); (case l21 => k_is); (case c21 => k_is); (case k21 => k_is); (case a22 => k_is); (case l22 => k_is); (case c22 => k_is); (case k22 => k_is); (case a23 => k_is); (case l23 => k_is); (case c23 => k_is); (case k23 => k_is); (case a24 => k_is); (case l24 => k_is); (case c24 => k_is); (case k24 => k_is); (case a25 => k_is); (case l25 => k_is); (case c25 => k_is); (case k25 => k_is); (case a26 => k_is); (case l26 => k_is); (case c26 => k_is); (case k26 => k_is); (case a27 => k_is); (case l27 => k_is); (case c27 => k_is); (case k27 => k_is); (case a28 => k_is); (case l28 => k_is); (case c28 => k_is); (case k28 => k_is); (case a29 => k_is); (case l29 => k_is); (case c29 => k_is); (case k29 => k_is); (case a30 => k_is); (case l30 => k_is); (case c30 => k_is); (case k30 => k_is); (case a31 => k_is); (case l31 => k_is); (case c31 => k_is); (case k31 => k_is); (case a32 => k_is); (case l32 => k_is); (case c32 => k_is); (case k32 => k_is); (case a33 => k_is); (case l33 => k_is); (case c33 => k_is); (case k33 => k_is); (case a34 => k_is); (case l34 => k_is); (case c34 => k_is); (case k34 => k_is); (case kl34 => k_is); (case kp34 => rfl); (case ka34 => exact ⟨_, _, rfl⟩); (case kb34 => exact ⟨_, _, rfl⟩); (case kc34 => exact ⟨_, rfl⟩); (case kd34 => exact ⟨_, _, rfl⟩); (case ke34 => decide); (case kn34 => first | k_is | rfl); (case c_GREATEST_WORD => k_is); (case c_MOST_WORDS => k_is); (case c_MOST_STEPS => k_is); (case c_PARTS => k_is); (case w_PARTS => k_is); (case y_PARTS => exact ⟨⟨_, _, rfl, rfl⟩, ⟨⟨_, _, rfl, rfl⟩, ⟨⟨_, _, rfl, rfl⟩, ⟨⟨_, _, rfl, rfl⟩, ⟨⟨_, _, rfl, rfl⟩, ⟨⟨_, _, rfl, rfl⟩, ⟨⟨_, _, rfl, rfl⟩, ⟨⟨_, _, rfl, rfl⟩, ⟨⟨_, _, rfl, rfl⟩, ⟨⟨_, _, rfl, rfl⟩, ⟨⟨_, _, rfl, rfl⟩, ⟨⟨_, _, rfl, rfl⟩, ⟨⟨_, _, rfl, rfl⟩, ⟨⟨_, _, rfl, rfl⟩, ⟨⟨_, _, rfl, rfl⟩, ⟨⟨_, _, rfl, rfl⟩, ⟨⟨_, _, rfl, rfl⟩, ⟨⟨_, _, rfl, rfl⟩, trivial⟩⟩⟩⟩⟩⟩⟩⟩⟩⟩⟩⟩⟩⟩⟩⟩⟩⟩); (case z_PARTS => rfl); (case v_PARTS => rfl); (case t38_0 => k_is); (case z38_0 => decide); (case u38_0 => rfl); (case t38_1 => k_is); (case z38_1 => decide); (case u38_1 => rfl); (case t38_2 => k_is); (case z38_2 => decide); (case u38_2 => rfl); (case t38_3 => k_is); (case z38_3 => decide); (case u38_3 => rfl); (case t38_4 => k_is); (case z38_4 => decide); (case u38_4 => rfl); (case t38_5 => k_is); (case z38_5 => decide); (case u38_5 => rfl); (case t38_6 => k_is); (case z38_6 => decide); (case u38_6 => rfl); (case t38_7 => k_is); (case z38_7 => decide); (case u38_7 => rfl); (case t38_8 => k_is); (case z38_8 => decide); (case u38_8 => rfl); (case t38_9 => k_is); (case z38_9 => decide); (case u38_9 => rfl); (case t38_10 => k_is); (case z38_10 => decide); (case u38_10 => rfl); (case t38_11 => k_is); (case z38_11 => decide); (case u38_11 => rfl); (case t38_12 => k_is); (case z38_12 => decide); (case u38_12 => rfl); (case t38_13 => k_is); (case z38_13 => decide); (case u38_13 => rfl); (case t38_14 => k_is); (case z38_14 => decide); (case u38_14 => rfl); (case t38_15 => k_is); (case z38_15 => decide); (case u38_15 => rfl); (case t38_16 => k_is); (case z38_16 => decide); (case u38_16 => rfl); (case t38_17 => k_is); (case z38_17 => decide); (case u38_17 => rfl); (case c_GREATEST => k_is); (case w_GREATEST => k_is); (case y_GREATEST => exact ⟨⟨_, _, rfl, rfl⟩, ⟨⟨_, _, rfl, rfl⟩, ⟨⟨_, _, rfl, rfl⟩, trivial⟩⟩⟩); (case z_GREATEST => rfl); (case v_GREATEST => rfl); (case c_MOST_ROW => k_is); (case c_MANY_REGISTERS => k_is); (case c_MANY_CARDS => k_is); (case c_WAITS => k_is); (case c_PLACE => k_is); (case c_PROGRAM => k_is); (case c_REGISTERS => k_is); (case c_MODULUS => k_is); (case c_RECORDS => k_is); (case c_ENDS => k_is); (case c_RECKONINGS => k_is); (case w_RECKONINGS => k_is); (case y_RECKONINGS => exact ⟨⟨_, _, rfl, rfl⟩, ⟨⟨_, _, rfl, rfl⟩, ⟨⟨_, _, rfl, rfl⟩, ⟨⟨_, _, rfl, rfl⟩, ⟨⟨_, _, rfl, rfl⟩, ⟨⟨_, _, rfl, rfl⟩, ⟨⟨_, _, rfl, rfl⟩, trivial⟩⟩⟩⟩⟩⟩⟩); (case z_RECKONINGS => rfl); (case v_RECKONINGS => rfl); (case a_NoCode => k_is); (case kb_NoCode => k_is); (case kd_NoCode => k_is); (case kt_NoCode => k_is); (case ki_NoCode => k_is); (case ks_NoCode => first | k_is | rfl); (case kx_NoCode => k_exc); (case kk_NoCode => k_is); (case k1_NoCode => k_is); (case k2_NoCode => k_is); (case k3_NoCode => k_is); (case k4_NoCode => k_is); (case k5_NoCode => k_is); (case k6_NoCode => k_is); (case a_NoAnswer => k_is); (case kb_NoAnswer => k_is); (case kd_NoAnswer => k_is); (case kt_NoAnswer => k_is); (case ki_NoAnswer => k_is); (case ks_NoAnswer => first | k_is | rfl); (case kx_NoAnswer => k_exc); (case kk_NoAnswer => k_is); (case k1_NoAnswer => k_is); (case k2_NoAnswer => k_is); (case k3_NoAnswer => k_is); (case k4_NoAnswer => k_is); (case k5_NoAnswer => k_is); (case k6_NoAnswer => k_is); (case a_NoRecords => k_is); (case kb_NoRecords => k_is); (case kd_NoRecords => k_is); (case kt_NoRecords => k_is); (case ki_NoRecords => k_is); (case ks_NoRecords => first | k_is | rfl); (case a_NoName => k_is); (case kb_NoName => k_is); (case kd_NoName => k_is); (case kt_NoName => k_is); (case ki_NoName => k_is); (case ks_NoName => first | k_is | rfl); (case a_NoNumber => k_is); (case kb_NoNumber => k_is); (case kd_NoNumber => k_is); (case kt_NoNumber => k_is); (case ki_NoNumber => k_is); (case ks_NoNumber => first | k_is | rfl); (case a_NoSlot => k_is); (case kb_NoSlot => k_is); (case kd_NoSlot => k_is); (case kt_NoSlot => k_is); (case ki_NoSlot => k_is); (case ks_NoSlot => first | k_is | rfl); (case a_NoJob => k_is); (case kb_NoJob => k_is); (case kd_NoJob => k_is); (case kt_NoJob => k_is); (case ki_NoJob => k_is); (case ks_NoJob => first | k_is | rfl); (case a_NoDeck => k_is); (case kb_NoDeck => k_is); (case kd_NoDeck => k_is); (case kt_NoDeck => k_is); (case ki_NoDeck => k_is); (case ks_NoDeck => first | k_is | rfl); (case a_NoPrinter => k_is); (case kb_NoPrinter => k_is); (case kd_NoPrinter => k_is); (case kt_NoPrinter => k_is); (case ki_NoPrinter => k_is); (case ks_NoPrinter => first | k_is | rfl); (case a_NoDrive => k_is); (case kb_NoDrive => k_is); (case kd_NoDrive => k_is); (case kt_NoDrive => k_is); (case ki_NoDrive => k_is); (case ks_NoDrive => first | k_is | rfl); (case a_NoVolume => k_is); (case kb_NoVolume => k_is); (case kd_NoVolume => k_is); (case kt_NoVolume => k_is); (case ki_NoVolume => k_is); (case ks_NoVolume => first | k_is | rfl); (case a_NoAccount => k_is); (case kb_NoAccount => k_is); (case kd_NoAccount => k_is); (case kt_NoAccount => k_is); (case ki_NoAccount => k_is); (case ks_NoAccount => first | k_is | rfl); (case a_NoEvents => k_is); (case kb_NoEvents => k_is); (case kd_NoEvents => k_is); (case kt_NoEvents => k_is); (case ki_NoEvents => k_is); (case ks_NoEvents => first | k_is | rfl); (case a_IsUp => k_is); (case kb_IsUp => k_is); (case kd_IsUp => k_is); (case kt_IsUp => k_is); (case ki_IsUp => k_is); (case ks_IsUp => first | k_is | rfl); (case a_IsDown => k_is); (case kb_IsDown => k_is); (case kd_IsDown => k_is); (case kt_IsDown => k_is); (case ki_IsDown => k_is); (case ks_IsDown => first | k_is | rfl); (case a_NoChoices => k_is); (case kb_NoChoices => k_is); (case kd_NoChoices => k_is); (case kt_NoChoices => k_is); (case ki_NoChoices => k_is); (case ks_NoChoices => first | k_is | rfl); (case a_NoRoom => k_is); (case kb_NoRoom => k_is); (case kd_NoRoom => k_is); (case kt_NoRoom => k_is); (case ki_NoRoom => k_is); (case ks_NoRoom => first | k_is | rfl); (case a_NoWords => k_is); (case kb_NoWords => k_is); (case kd_NoWords => k_is); (case kt_NoWords => k_is); (case ki_NoWords => k_is); (case ks_NoWords => first | k_is | rfl); (case a_NoValue => k_is); (case kb_NoValue => k_is); (case kd_NoValue => k_is); (case kt_NoValue => k_is); (case ki_NoValue => k_is); (case ks_NoValue => first | k_is | rfl); (case a_NoText => k_is); (case kb_NoText => k_is); (case kd_NoText => k_is); (case kt_NoText => k_is); (case ki_NoText => k_is); (case ks_NoText => first | k_is | rfl); (case a_Busy => k_is); (case kb_Busy => k_is); (case kd_Busy => k_is); (case kt_Busy => k_is); (case ki_Busy => k_is); (case ks_Busy => first | k_is | rfl); (case a_TooDear => k_is); (case kb_TooDear => k_is); (case kd_TooDear => k_is); (case kt_TooDear => k_is); (case ki_TooDear => k_is); (case ks_TooDear => first | k_is | rfl); (case a_YardError => k_is); (case kb_YardError => k_is); (case kd_YardError => k_is); (case kt_YardError => k_is); (case ki_YardError => k_is); (case ks_YardError => first | k_is | rfl); (case kp_NoAnswer_Busy => first | k_is | rfl); (case kp_NoAnswer_IsDown => first | k_is | rfl); (case kp_NoAnswer_IsUp => first | k_is | rfl); (case kp_NoAnswer_NoAccount => first | k_is | rfl); (case kp_NoAnswer_NoAnswer => first | k_is | rfl); (case kp_NoAnswer_NoChoices => first | k_is | rfl); (case kp_NoAnswer_NoCode => first | k_is | rfl); (case kp_NoAnswer_NoDeck => first | k_is | rfl); (case kp_NoAnswer_NoDrive => first | k_is | rfl); (case kp_NoAnswer_NoEvents => first | k_is | rfl); (case kp_NoAnswer_NoJob => first | k_is | rfl); (case kp_NoAnswer_NoName => first | k_is | rfl); (case kp_NoAnswer_NoNumber => first | k_is | rfl); (case kp_NoAnswer_NoPrinter => first | k_is | rfl); (case kp_NoAnswer_NoRecords => first | k_is | rfl); (case kp_NoAnswer_NoRoom => first | k_is | rfl); (case kp_NoAnswer_NoSlot => first | k_is | rfl); (case kp_NoAnswer_NoText => first | k_is | rfl); (case kp_NoAnswer_NoValue => first | k_is | rfl); (case kp_NoAnswer_NoVolume => first | k_is | rfl); (case kp_NoAnswer_NoWords => first | k_is | rfl); (case kp_NoAnswer_TooDear => first | k_is | rfl); (case kp_NoAnswer_YardError => first | k_is | rfl); (case kp_NoCode_Busy => first | k_is | rfl); (case kp_NoCode_IsDown => first | k_is | rfl); (case kp_NoCode_IsUp => first | k_is | rfl); (case kp_NoCode_NoAccount => first | k_is | rfl); (case kp_NoCode_NoAnswer => first | k_is | rfl); (case kp_NoCode_NoChoices => first | k_is | rfl); (case kp_NoCode_NoCode => first | k_is | rfl); (case kp_NoCode_NoDeck => first | k_is | rfl); (case kp_NoCode_NoDrive => first | k_is | rfl); (case kp_NoCode_NoEvents => first | k_is | rfl); (case kp_NoCode_NoJob => first | k_is | rfl); (case kp_NoCode_NoName => first | k_is | rfl); (case kp_NoCode_NoNumber => first | k_is | rfl); (case kp_NoCode_NoPrinter => first | k_is | rfl); (case kp_NoCode_NoRecords => first | k_is | rfl); (case kp_NoCode_NoRoom => first | k_is | rfl); (case kp_NoCode_NoSlot => first | k_is | rfl); (case kp_NoCode_NoText => first | k_is | rfl); (case kp_NoCode_NoValue => first | k_is | rfl); (case kp_NoCode_NoVolume => first | k_is | rfl); (case kp_NoCode_NoWords => first | k_is | rfl); (case kp_NoCode_TooDear => first | k_is | rfl); (case kp_NoCode_YardError => first | k_is | rfl); (case kq_NoAnswer_ValueError => first | k_is | rfl); (case kq_NoCode_ValueError => first | k_is | rfl); (case z_isinstance => k_is); (case z_int => k_is); (case z_bool => k_is); (case z_tuple => k_is); (case z_len => k_is); (case z_all => k_is); (case z_str => k_is); (case z_zip => k_is); (case z_max => k_is); (case z_ValueError => k_is)
